/-
  What a store into a map of IDs leaves: variables, rows, brokers. No program's function in it.
  Chapter 9's law of any calls: AdvertsPlays. No condition.
-/
import Derived.Test.YtonoadjmglkhaaaGreatU030
import Derived.Test.YtonoadjmglkhaaaGreatU039
import Derived.Test.YtonoadjmglkhaaaGreatU037
import Derived.Test.YtonoadjmglkhaaaGreatU040
import Derived.Test.YtonoadjmglkhaaaGreatU043
import Derived.Test.YtonoadjmglkhaaaGreatU044
namespace Go.Proofs.YtonoadjmglkhaaaGreat.Av
open Go.RowKit Go.Sort Go.Proofs.YtonoadjmglkhaaaGreat Go.Proofs.YtonoadjmglkhaaaGreat.Rw Go.Proofs.YtonoadjmglkhaaaGreat.Nm Go.Proofs.YtonoadjmglkhaaaGreat.Pr Go.Proofs.YtonoadjmglkhaaaGreat.Bk

theorem but_grown {W W' : World} {b : Nat} (h : W.grownBy W' (some b)) : But b W W' := ⟨fun k hk hne => h.block k hk (by simpa using hne), h.size⟩
theorem InMap.isMap {W : World} {b : Nat} {s : List XID} (h : InMap W b s) : ∃ es clock, W.heap[b]? = some (.map es clock) := by
  obtain ⟨n, D, _, ⟨es, clock, h2, _⟩, _⟩ := h
  exact ⟨es, clock, h2⟩
theorem InMap.noBox {W : World} {b c : Nat} {s : List XID} {cs : Array Value} {t : TypeId} (h : InMap W b s) (hb : Box W c cs t) : c ≠ b := by
  rintro rfl
  obtain ⟨es, clock, h2⟩ := h.isMap
  unfold Box at hb
  rw [h2] at hb
  cases hb
theorem InMap.noCell {W : World} {b : Nat} {s : List XID} (h : InMap W b s) {a : Addr} {v : Value} (hc : W.cell? a = some v) : a.block ≠ b := by
  rintro rfl
  obtain ⟨es, clock, h2⟩ := h.isMap
  unfold World.cell? at hc
  rw [h2] at hc
  simp at hc
theorem Box.map {W W' : World} {b c : Nat} {s : List XID} {cs : Array Value} {t : TypeId} (hb : Box W c cs t) (h : InMap W b s) (hk : But b W W') : Box W' c cs t := hk.box hb (h.noBox hb)
theorem noRow {α : Type} {E : Ek α} {W : World} {b : Nat} {s : List XID} (h : InMap W b s) (hE : ∀ c : α, ∃ v, (E.cells c)[0]? = some v) (a : Addr) (c : α) (hc : ∀ j u, (E.cells c)[j]? = some u → W.cell? (a.add j) = some u) : a.block ≠ b := by
  obtain ⟨v, hv⟩ := hE c
  have := h.noCell (hc 0 v hv)
  rwa [add_blk] at this
theorem BrN.map {W W' : World} {m : Nat} {s : List XID} {b : Br} {nv av sv ev ov : Sl} (h : BrN W b nv av sv ev ov) (hm : InMap W m s) (hk : But m W W') : BrN W' b nv av sv ev ov := by
  obtain ⟨B, hn⟩ := h.no
  have hn2 : OwnI W' B (slv nv) b.near := by
    refine ⟨hn.1, ?_⟩
    rcases hn.2 with h2 | ⟨g', cap, cur, h1, h2, h3, h4⟩
    · exact Or.inl h2
    · exact Or.inr ⟨g', cap, cur, h1, h2, by rw [hk.1 g' (lt_of_heap h3) (hm.noBox (show Box W g' cur _ from h3))]; exact h3, h4⟩
  have R := fun {α : Type} {E : Ek α} (K : E.Ok) (hE : ∀ c : α, ∃ v, (E.cells c)[0]? = some v) {v : Value} {l : List α} (hr : Row E W v l) => row_keep K hr hk.1 (noRow hm hE)
  refine ⟨⟨Row.of_own hn2, ?_, R okJ (fun c => ⟨_, rfl⟩) h.br.seen, ?_, ?_⟩, B, hn2⟩
  · obtain ⟨l, h1, h2⟩ := h.br.adv
    exact ⟨l, R okD (fun c => ⟨_, rfl⟩) h1, h2.mono fun x a hx => ⟨hx.1, hx.2.1, R okC (fun c => ⟨_, rfl⟩) hx.2.2⟩⟩
  · obtain ⟨l, h1, h2⟩ := h.br.ent
    exact ⟨l, R okN (fun c => ⟨_, rfl⟩) h1, h2.mono fun x a hx => ⟨hx.1, hx.2.1, hx.2.2.1, hx.2.2.2.1, R okC (fun c => ⟨_, rfl⟩) hx.2.2.2.2⟩⟩
  · obtain ⟨l, h1, h2⟩ := h.br.own
    exact ⟨l, R okW (fun c => ⟨_, rfl⟩) h1, h2.mono fun x a hx => ⟨hx.1, R okC (fun c => ⟨_, rfl⟩) hx.2⟩⟩
theorem but_below {W0 W W' : World} {b B : Nat} (h : Below B W0 W) (hg : W.grownBy W' (some b)) (hb : B ≤ b) (hl : b < W.heap.size) : Below B W0 W' :=
  h.grown hg (Nat.le_of_lt (Nat.lt_of_le_of_lt hb hl)) (fun j hj => by cases hj; exact hb)
/-- A store into a broker's variable leaves a map. -/
theorem InMap.keep {W W' : World} {m k : Nat} {s : List XID} {cs : Array Value} {t : TypeId} (h : InMap W m s) (hb : Box W k cs t) (hk : But k W W') : InMap W' m s := h.of_block (hk.1 m h.lt (h.noBox hb).symm)
end Go.Proofs.YtonoadjmglkhaaaGreat.Av

namespace Go.Proofs.YtonoadjmglkhaaaGreat.Av
open Go.RowKit Go.Sort Go.Proofs.YtonoadjmglkhaaaGreat Go.Proofs.YtonoadjmglkhaaaGreat.Rw Go.Proofs.YtonoadjmglkhaaaGreat.Nm Go.Proofs.YtonoadjmglkhaaaGreat.Pr Go.Proofs.YtonoadjmglkhaaaGreat.Bk

set_option maxRecDepth 100000 in
set_option maxHeartbeats 64000000 in
theorem plays_any (v : Value) (n : Nat) (w : World) (iq : InQ w v n) (ln : n ≤ maxLen) :
    Calls Tryz.prog 3 #[v] w fun e w' => e = .returned (.bool true) ∧ Below w.heap.size w w' := by
  obtain ⟨ao, ac, rfl⟩ := iq.shape
  have IQ := Lib.hid iq
  have LN := Lib.hid ln
  clear iq ln
  go_enter Tryz.func3, Tryz.ntmps3
  go_wp2_with fail
  have hl := row_lit Nm.okI w [1, 2, 3] 3 rfl (by simp) #[.int .i64 1, .int .i64 2, .int .i64 3] (by rfl)
  have N1 := newB w (.cells #[.int .i64 1, .int .i64 2, .int .i64 3] 3)
  refine (anew_any 0 (some ⟨w.heap.size, 0, none⟩, 3, 3) [1, 2, 3] _ (Row.of_own hl) (by simp)).mono ?_
  rintro e1 w1 ⟨⟨l', ⟨m1, m2, m3⟩, rfl, hbr, ⟨B, ho⟩, hp, hm⟩, hb⟩
  obtain rfl : l' = [1, 2, 3] := rise_uniq hp (by simp) (fun x => hm x)
  have BR := Lib.hid (BrN.mk hbr ⟨B, ho⟩)
  have G1 := Lib.hid (N1.trans (hb.mono N1.size))
  have hl2 := row_lit Nm.okI w1 [1, 2, 3] 3 rfl (by simp) #[.int .i64 1, .int .i64 2, .int .i64 3] (by rfl)
  have WS := Lib.hid (show w.heap.size ≤ w1.heap.size from Nat.le_trans (by simp) hb.size)
  have WS := Lib.hid (show w.heap.size ≤ w1.heap.size from Nat.le_trans (by simp) hb.size)
  have M1 := newB w1 (.cells #[.int .i64 1, .int .i64 2, .int .i64 3] 3)
  have OR := Lib.hid (show BrN (w1.alloc (.cells #[.int .i64 1, .int .i64 2, .int .i64 3] 3)) (newB0 0 [1, 2, 3]) (some ⟨w1.heap.size, 0, none⟩, 3, 3) (none, 0, 0) (none, 0, 0) (none, 0, 0) (none, 0, 0) from ⟨brin_nil _ 0 (Row.of_own hl2), _, hl2⟩)
  clear hl N1 hbr ho hp hm hb hl2
  go_upto_region 2 with fail
  have M2 := newB (w1.alloc (.cells #[.int .i64 1, .int .i64 2, .int .i64 3] 3)) (.cells #[.int .i64 0, .slice m1 m2 m3, .slice none 0 0, .slice none 0 0, .slice none 0 0, .slice none 0 0] 29)
  have M3 := newB ((w1.alloc (.cells #[.int .i64 1, .int .i64 2, .int .i64 3] 3)).alloc (.cells #[.int .i64 0, .slice m1 m2 m3, .slice none 0 0, .slice none 0 0, .slice none 0 0, .slice none 0 0] 29)) (.cells #[.int .i64 0, .slice (some ⟨w1.heap.size, 0, none⟩) 3 3, .slice none 0 0, .slice none 0 0, .slice none 0 0, .slice none 0 0] 29)
  have MM := M2.trans (M3.mono M2.size)
  have MA := M1.trans (MM.mono M1.size)
  have X3_1 := Lib.hid ((box_new (w1.alloc (.cells #[.int .i64 1, .int .i64 2, .int .i64 3] 3)) #[.int .i64 0, .slice m1 m2 m3, .slice none 0 0, .slice none 0 0, .slice none 0 0, .slice none 0 0] 29).on M3)
  have X4_1 := Lib.hid (box_new ((w1.alloc (.cells #[.int .i64 1, .int .i64 2, .int .i64 3] 3)).alloc (.cells #[.int .i64 0, .slice m1 m2 m3, .slice none 0 0, .slice none 0 0, .slice none 0 0, .slice none 0 0] 29)) #[.int .i64 0, .slice (some ⟨w1.heap.size, 0, none⟩) 3 3, .slice none 0 0, .slice none 0 0, .slice none 0 0, .slice none 0 0] 29)
  rw [show (w1.alloc (.cells #[.int .i64 1, .int .i64 2, .int .i64 3] 3)).heap.size = w1.heap.size + 1 from (more_one _ _).symm] at X3_1
  rw [show ((w1.alloc (.cells #[.int .i64 1, .int .i64 2, .int .i64 3] 3)).alloc (.cells #[.int .i64 0, .slice m1 m2 m3, .slice none 0 0, .slice none 0 0, .slice none 0 0, .slice none 0 0] 29)).heap.size = w1.heap.size + 1 + 1 from by simp] at X4_1
  have G1_1 := Lib.hid (G1.out.trans (MA.mono G1.out.size))
  have BR_1 := Lib.hid (BR.out.on MA)
  have OR_1 := Lib.hid (OR.out.on MM)
  clear G1 BR OR
  clear M1 M2 M3 MM MA
  generalize (((w1.alloc (.cells #[.int .i64 1, .int .i64 2, .int .i64 3] 3)).alloc (.cells #[.int .i64 0, .slice m1 m2 m3, .slice none 0 0, .slice none 0 0, .slice none 0 0, .slice none 0 0] 29)).alloc (.cells #[.int .i64 0, .slice (some ⟨w1.heap.size, 0, none⟩) 3 3, .slice none 0 0, .slice none 0 0, .slice none 0 0, .slice none 0 0] 29)) = W at *
  generalize hb3 : w1.heap.size + 1 = b3 at *
  generalize hb4 : b3 + 1 = b4 at *
  have L3 : w.heap.size ≤ b3 := by have h1 := WS.out; omega
  have L4 : w.heap.size ≤ b4 := by omega
  have N34 : b3 ≠ b4 := by omega
  clear hb3 hb4 WS
  go_wp2_with fail
  go_loopw [5] (fun i wr => ∃ (k : Nat) (b : Br) (s1 : Option Addr) (s2 s3 : Nat) (s4 : Option Addr) (s5 s6 : Nat) (s7 : Option Addr) (s8 s9 : Nat) (s10 : Option Addr) (s11 s12 : Nat) (s13 : Option Addr) (s14 s15 : Nat) (o1 : Option Addr) (o2 o3 : Nat) (o4 : Option Addr) (o5 o6 : Nat) (o7 : Option Addr) (o8 o9 : Nat) (o10 : Option Addr) (o11 o12 : Nat) (o13 : Option Addr) (o14 o15 : Nat), k ≤ 25 ∧ k ≤ n ∧ i = .int .i64 k ∧ PlayI b k ∧ Box wr b3 #[.int .i64 b.me, .slice s1 s2 s3, .slice s4 s5 s6, .slice s7 s8 s9, .slice s10 s11 s12, .slice s13 s14 s15] 29 ∧ Box wr b4 #[.int .i64 b.me, .slice o1 o2 o3, .slice o4 o5 o6, .slice o7 o8 o9, .slice o10 o11 o12, .slice o13 o14 o15] 29 ∧ BrN wr b (s1, s2, s3) (s4, s5, s6) (s7, s8, s9) (s10, s11, s12) (s13, s14, s15) ∧ BrN wr b (o1, o2, o3) (o4, o5, o6) (o7, o8, o9) (o10, o11, o12) (o13, o14, o15) ∧ Below w.heap.size w wr) (fun i _ => 25 - (intOf i).toNat)
  case atStart => exact ⟨0, newB0 0 [1, 2, 3], m1, m2, m3, none, 0, 0, none, 0, 0, none, 0, 0, none, 0, 0, some ⟨w1.heap.size, 0, none⟩, 3, 3, none, 0, 0, none, 0, 0, none, 0, 0, none, 0, 0, Nat.zero_le _, Nat.zero_le _, rfl, play_new, X3_1.out, X4_1.out, BR_1.out, OR_1.out, G1_1.out⟩
  case round =>
    obtain ⟨k, b, s1, s2, s3, s4, s5, s6, s7, s8, s9, s10, s11, s12, s13, s14, s15, o1, o2, o3, o4, o5, o6, o7, o8, o9, o10, o11, o12, o13, o14, o15, hk, hkn, rfl, hpi, hx3, hx4, hn3, hn4, hbel⟩ := hrel
    have PI_1 := Lib.hid (hpi)
    have X3_2 := Lib.hid (hx3)
    have X4_3 := Lib.hid (hx4)
    have N3_4 := Lib.hid (hn3)
    have N4_5 := Lib.hid (hn4)
    have GB_6 := Lib.hid (hbel)
    clear hpi hx3 hx4 hn3 hn4 hbel X3_1 X4_1 G1_1 BR_1 OR_1
    by_cases hlt : k < n ∧ k < 25
    · obtain ⟨hn, h25⟩ := hlt
      have hn' : (k : Int) < (n : Int) := by omega
      have h25' : (k : Int) < 25 := by omega
      obtain ⟨p, z0, z1, z2, z3, h1, h2, h3, g1, g2, g3, has, vals, hpl, hix, hpc, ⟨d0, d1, d2, d3⟩, hih, hiv, hlh, hlv⟩ := (IQ.out.on GB_6.out).at_ k hn
      have p0 := hpc 0 _ rfl
      have p1 := hpc 1 _ rfl
      have p2 := hpc 2 _ rfl
      have p3 := hpc 3 _ rfl
      have p4 := hpc 4 _ rfl
      have p5 := hpc 5 _ rfl
      simp [Addr.add] at p0 p1 p2 p3 p4 p5
      have D0_7 := Lib.hid (d0)
      have D1_8 := Lib.hid (d1)
      have D2_9 := Lib.hid (d2)
      have D3_10 := Lib.hid (d3)
      have LH_11 := Lib.hid (hlh)
      have LV_12 := Lib.hid (hlv)
      have IH_13 := Lib.hid (hih)
      have IV_14 := Lib.hid (hiv)
      clear hpc d0 d1 d2 d3 hih hiv hlh hlv
      go_upto_region 6 with fail
      clear p0 p1 p2 p3 p4 p5 hix hpl
      have NN := newB wr (.cells #[.int .i64 z0, .int .i64 z1, .int .i64 z2, .int .i64 z3, .slice h1 h2 h3, .slice g1 g2 g3] 34)
      have X3_15 := Lib.hid (X3_2.out.on NN)
      have X4_15 := Lib.hid (X4_3.out.on NN)
      have N3_15 := Lib.hid (N3_4.out.on NN)
      have N4_15 := Lib.hid (N4_5.out.on NN)
      have GB_15 := Lib.hid (GB_6.out.trans (NN.mono GB_6.out.size))
      have IH_15 := Lib.hid (IH_13.out.on NN)
      have IV_15 := Lib.hid (IV_14.out.on NN)
      clear X3_2 X4_3 N3_4 N4_5 GB_6 IH_13 IV_14
      clear NN
      have XQ_16 := Lib.hid (box_new wr #[.int .i64 z0, .int .i64 z1, .int .i64 z2, .int .i64 z3, .slice h1 h2 h3, .slice g1 g2 g3] 34)
      have sq : wr.heap.size < (wr.alloc (.cells #[.int .i64 z0, .int .i64 z1, .int .i64 z2, .int .i64 z3, .slice h1 h2 h3, .slice g1 g2 g3] 34)).heap.size := by simp
      generalize wr.alloc (.cells #[.int .i64 z0, .int .i64 z1, .int .i64 z2, .int .i64 z3, .slice h1 h2 h3, .slice g1 g2 g3] 34) = wq at *
      refine play6 _ wq wr.heap.size z0 z1 z2 z3 h1 h2 h3 g1 g2 g3 _ _ _ _ _ _ _ _ _ _ _ _ _ _ _ _ _ _ _ _ _ _ _ _ _ _ _ _ _ _ _ _ _ _ _ _ _ _ _ _ _ _ _ _ _ _ _ _ _ _ _ _ _ _ _ _ _ _ _ _ _ _ _ _ _ _ _ _ _ _ _ _ _ _ _ _ _ _ _ _ _ _ _ _ _ _ _ _ _ _ _ _ _ _ _ _ _ _ _ _ _ _ _ _ _ _ _ _ _ _ _ _ _ _ _ _ _ _ _ _ _ _ _ _ _ _ _ _ _ _ _ _ _ _ _ _ _ _ _ _ _ _ _ _ _ _ _ XQ_16.out D1_8.out D2_9.out ?_
      intro x b7 v35 v36 v37 v38 v39 v40 v41 hb7 hbox hbel
      have X3_17 := Lib.hid (X3_15.out.on hbel)
      have X4_17 := Lib.hid (X4_15.out.on hbel)
      have N3_17 := Lib.hid (N3_15.out.on hbel)
      have N4_17 := Lib.hid (N4_15.out.on hbel)
      have GB_17 := Lib.hid (GB_15.out.trans (hbel.mono GB_15.out.size))
      have IH_17 := Lib.hid (IH_15.out.on hbel)
      have IV_17 := Lib.hid (IV_15.out.on hbel)
      have XQ_17 := Lib.hid (XQ_16.out.on hbel)
      clear X3_15 X4_15 N3_15 N4_15 GB_15 IH_15 IV_15 XQ_16
      have X7_18 := Lib.hid (hbox)
      clear hbel hbox
      generalize Wi.within z1 0 2 = i1 at *
      generalize Wi.within z2 0 2 = i2 at *
      have xq0 := XQ_17.out.cell 0
      have xq1 := XQ_17.out.cell 1
      have xq2 := XQ_17.out.cell 2
      have xq3 := XQ_17.out.cell 3
      have xq4 := XQ_17.out.cell 4
      have xq5 := XQ_17.out.cell 5
      simp only [List.getElem?_toArray, List.getElem?_cons_zero, List.getElem?_cons_succ] at xq0 xq1 xq2 xq3 xq4 xq5
      have WI := Wi.within_any z3 (-1) 3 x (by decide) (by decide) (by decide) D3_10.out.1 D3_10.out.2
      have WB := Wi.within_bd z3 (-1) 3 (by decide)
      generalize Wi.within z3 (-1) 3 = f at *
      go_wp2_with fail
      refine WI.mono ?_
      rintro e2 w2 ⟨rfl, rfl⟩
      clear xq0 xq1 xq2 xq3 xq4 xq5
      clear WI
      rcases hf0 : (f == (0 : Int)) with _ | _
      · have HF := Lib.hid (show (f : Int) = -1 ∨ (f : Int) = 1 ∨ (f : Int) = 2 ∨ (f : Int) = 3 from by (have h0 : f ≠ 0 := (by simpa using hf0); omega))
        have xm0 := X3_17.out.cell 0
        have xm1 := X3_17.out.cell 1
        have xm2 := X3_17.out.cell 2
        have xm3 := X3_17.out.cell 3
        have xm4 := X3_17.out.cell 4
        have xm5 := X3_17.out.cell 5
        simp only [List.getElem?_toArray, List.getElem?_cons_zero, List.getElem?_cons_succ] at xm0 xm1 xm2 xm3 xm4 xm5
        go_wp2_with fail
        clear hf0 WB
        have C := copy_any b (s1, s2, s3) (s4, s5, s6) (s7, s8, s9) (s10, s11, s12) (s13, s14, s15) _ N3_17.out.br (PI_1.out.few (by omega))
        refine C.mono ?_
        rintro e3 w3 ⟨⟨⟨y1, y2, y3⟩, ⟨y4, y5, y6⟩, ⟨y7, y8, y9⟩, ⟨y10, y11, y12⟩, ⟨y13, y14, y15⟩, rfl, hown⟩, hb⟩
        clear xm0 xm1 xm2 xm3 xm4 xm5
        have X3_19 := Lib.hid (X3_17.out.on hb)
        have X4_19 := Lib.hid (X4_17.out.on hb)
        have N3_19 := Lib.hid (N3_17.out.on hb)
        have N4_19 := Lib.hid (N4_17.out.on hb)
        have GB_19 := Lib.hid (GB_17.out.trans (hb.mono GB_17.out.size))
        have IH_19 := Lib.hid (IH_17.out.on hb)
        have IV_19 := Lib.hid (IV_17.out.on hb)
        have XQ_19 := Lib.hid (XQ_17.out.on hb)
        have X7_19 := Lib.hid (X7_18.out.on hb)
        clear X3_17 X4_17 N3_17 N4_17 GB_17 IH_17 IV_17 XQ_17 X7_18
        clear C hb
        have K3 := X3_19.out.lt
        have K4 := X4_19.out.lt
        have N9_20 := Lib.hid (BrN.mk hown.br ⟨_, hown.near⟩)
        clear hown
        have NN := newB w3 (.cells #[.int .i64 b.me, .slice y1 y2 y3, .slice y4 y5 y6, .slice y7 y8 y9, .slice y10 y11 y12, .slice y13 y14 y15] 29)
        have X3_21 := Lib.hid (X3_19.out.on NN)
        have X4_21 := Lib.hid (X4_19.out.on NN)
        have N3_21 := Lib.hid (N3_19.out.on NN)
        have N4_21 := Lib.hid (N4_19.out.on NN)
        have GB_21 := Lib.hid (GB_19.out.trans (NN.mono GB_19.out.size))
        have IH_21 := Lib.hid (IH_19.out.on NN)
        have IV_21 := Lib.hid (IV_19.out.on NN)
        have XQ_21 := Lib.hid (XQ_19.out.on NN)
        have X7_21 := Lib.hid (X7_19.out.on NN)
        have N9_21 := Lib.hid (N9_20.out.on NN)
        clear X3_19 X4_19 N3_19 N4_19 GB_19 IH_19 IV_19 XQ_19 X7_19 N9_20
        clear NN
        have X9_22 := Lib.hid (box_new w3 #[.int .i64 b.me, .slice y1 y2 y3, .slice y4 y5 y6, .slice y7 y8 y9, .slice y10 y11 y12, .slice y13 y14 y15] 29)
        have xm0 := X3_21.out.cell 0
        have xm1 := X3_21.out.cell 1
        have xm2 := X3_21.out.cell 2
        have xm3 := X3_21.out.cell 3
        have xm4 := X3_21.out.cell 4
        have xm5 := X3_21.out.cell 5
        simp only [List.getElem?_toArray, List.getElem?_cons_zero, List.getElem?_cons_succ] at xm0 xm1 xm2 xm3 xm4 xm5
        go_upto_region 12 with fail
        clear xm0 xm1 xm2 xm3 xm4 xm5
        have S9 := more_one w3 (.cells #[.int .i64 b.me, .slice y1 y2 y3, .slice y4 y5 y6, .slice y7 y8 y9, .slice y10 y11 y12, .slice y13 y14 y15] 29)
        have NN := newB (w3.alloc (.cells #[.int .i64 b.me, .slice y1 y2 y3, .slice y4 y5 y6, .slice y7 y8 y9, .slice y10 y11 y12, .slice y13 y14 y15] 29)) (.cells #[.int .i64 b.me, .slice s1 s2 s3, .slice s4 s5 s6, .slice s7 s8 s9, .slice s10 s11 s12, .slice s13 s14 s15] 29)
        have X3_23 := Lib.hid (X3_21.out.on NN)
        have X4_23 := Lib.hid (X4_21.out.on NN)
        have N3_23 := Lib.hid (N3_21.out.on NN)
        have N4_23 := Lib.hid (N4_21.out.on NN)
        have GB_23 := Lib.hid (GB_21.out.trans (NN.mono GB_21.out.size))
        have IH_23 := Lib.hid (IH_21.out.on NN)
        have IV_23 := Lib.hid (IV_21.out.on NN)
        have XQ_23 := Lib.hid (XQ_21.out.on NN)
        have X7_23 := Lib.hid (X7_21.out.on NN)
        have N9_23 := Lib.hid (N9_21.out.on NN)
        have X9_23 := Lib.hid (X9_22.out.on NN)
        clear X3_21 X4_21 N3_21 N4_21 GB_21 IH_21 IV_21 XQ_21 X7_21 N9_21 X9_22
        clear NN
        have X10_24 := Lib.hid (box_new (w3.alloc (.cells #[.int .i64 b.me, .slice y1 y2 y3, .slice y4 y5 y6, .slice y7 y8 y9, .slice y10 y11 y12, .slice y13 y14 y15] 29)) #[.int .i64 b.me, .slice s1 s2 s3, .slice s4 s5 s6, .slice s7 s8 s9, .slice s10 s11 s12, .slice s13 s14 s15] 29)
        rw [← S9] at X10_24
        clear S9
        have NE_25 := Lib.hid (N3_23.out)
        have xq0 := XQ_23.out.cell 0
        have xq1 := XQ_23.out.cell 1
        have xq2 := XQ_23.out.cell 2
        have xq3 := XQ_23.out.cell 3
        have xq4 := XQ_23.out.cell 4
        have xq5 := XQ_23.out.cell 5
        simp only [List.getElem?_toArray, List.getElem?_cons_zero, List.getElem?_cons_succ] at xq0 xq1 xq2 xq3 xq4 xq5
        have xm0 := X3_23.out.cell 0
        have xm1 := X3_23.out.cell 1
        have xm2 := X3_23.out.cell 2
        have xm3 := X3_23.out.cell 3
        have xm4 := X3_23.out.cell 4
        have xm5 := X3_23.out.cell 5
        simp only [List.getElem?_toArray, List.getElem?_cons_zero, List.getElem?_cons_succ] at xm0 xm1 xm2 xm3 xm4 xm5
        have xc0 := X7_23.out.cell 0
        have xc1 := X7_23.out.cell 1
        simp only [List.getElem?_toArray, List.getElem?_cons_zero, List.getElem?_cons_succ] at xc0 xc1
        rcases hq : (bits BinOp.and IntKind.i64 z0 1 == (1 : Int)) with _ | _
        · go_wp2_with fail
          generalize ((w3.alloc (.cells #[.int .i64 b.me, .slice y1 y2 y3, .slice y4 y5 y6, .slice y7 y8 y9, .slice y10 y11 y12, .slice y13 y14 y15] 29)).alloc (.cells #[.int .i64 b.me, .slice s1 s2 s3, .slice s4 s5 s6, .slice s7 s8 s9, .slice s10 s11 s12, .slice s13 s14 s15] 29)) = w4 at *
          clear IH_23 IV_23
          have C := forget_any b (i1, i2) f (s1, s2, s3) (s4, s5, s6) (s7, s8, s9) (s10, s11, s12) (s13, s14, s15) w4 N3_23.out.br (PI_1.out.few (by omega)) PI_1.out.fewp
          have hp2 := play_forget PI_1.out (i1, i2) f
          have me1 := forgetF_me b (i1, i2) f
          obtain ⟨⟨nb, gt⟩, hlb⟩ : ∃ r : Br × Bool, forgetF b (i1, i2) f = r := ⟨_, rfl⟩
          rw [hlb] at C hp2 me1
          simp only at hp2 me1
          have ME1 := Lib.hid me1
          have HLB := Lib.hid hlb
          clear me1 hlb
          have PI2_26 := Lib.hid (hp2)
          clear hp2
          refine C.mono ?_
          rintro e5 w5 ⟨⟨⟨t1, t2, t3⟩, ⟨t4, t5, t6⟩, ⟨t7, t8, t9⟩, ⟨t10, t11, t12⟩, ⟨t13, t14, t15⟩, rfl, hbr, hno⟩, hb⟩
          clear xq0 xq1 xq2 xq3 xq4 xq5 xm0 xm1 xm2 xm3 xm4 xm5 xc0 xc1
          have hno := hno N3_23.out.no
          have X3_27 := Lib.hid (X3_23.out.on hb)
          have X4_27 := Lib.hid (X4_23.out.on hb)
          have N3_27 := Lib.hid (N3_23.out.on hb)
          have N4_27 := Lib.hid (N4_23.out.on hb)
          have GB_27 := Lib.hid (GB_23.out.trans (hb.mono GB_23.out.size))
          have XQ_27 := Lib.hid (XQ_23.out.on hb)
          have X7_27 := Lib.hid (X7_23.out.on hb)
          have N9_27 := Lib.hid (N9_23.out.on hb)
          have X9_27 := Lib.hid (X9_23.out.on hb)
          have X10_27 := Lib.hid (X10_24.out.on hb)
          have NE_27 := Lib.hid (NE_25.out.on hb)
          clear X3_23 X4_23 N3_23 N4_23 GB_23 XQ_23 X7_23 N9_23 X9_23 X10_24 NE_25
          clear C hb
          have N3_28 := Lib.hid (BrN.mk hbr hno)
          clear hbr hno
          have xm0 := X3_27.out.cell 0
          have xm1 := X3_27.out.cell 1
          have xm2 := X3_27.out.cell 2
          have xm3 := X3_27.out.cell 3
          have xm4 := X3_27.out.cell 4
          have xm5 := X3_27.out.cell 5
          simp only [List.getElem?_toArray, List.getElem?_cons_zero, List.getElem?_cons_succ] at xm0 xm1 xm2 xm3 xm4 xm5
          have xmf0 := X3_27.out.fr 0
          have xmf1 := X3_27.out.fr 1
          have xmf2 := X3_27.out.fr 2
          have xmf3 := X3_27.out.fr 3
          have xmf4 := X3_27.out.fr 4
          have xmf5 := X3_27.out.fr 5
          have zz := X3_27.out.lt
          go_upto_region 18 with fail
          clear zz
          clear xm0 xm1 xm2 xm3 xm4 xm5 xmf0 xmf1 xmf2 xmf3 xmf4 xmf5
          have BU := but_setB w5 b3 (.int .i64 nb.me) (.slice t1 t2 t3) (.slice t4 t5 t6) (.slice t7 t8 t9) (.slice t10 t11 t12) (.slice t13 t14 t15)
          have X3_29 := Lib.hid (setB_box X3_27.out (.int .i64 nb.me) (.slice t1 t2 t3) (.slice t4 t5 t6) (.slice t7 t8 t9) (.slice t10 t11 t12) (.slice t13 t14 t15))
          have X4_29 := Lib.hid (BU.box X4_27.out (N34.symm))
          have N3_29 := Lib.hid (N3_28.out.keep (s1 := (s1, s2, s3)) (s2 := (s4, s5, s6)) (s3 := (s7, s8, s9)) (s4 := (s10, s11, s12)) (s5 := (s13, s14, s15)) X3_27.out BU)
          have N4_29 := Lib.hid (N4_27.out.keep (s1 := (s1, s2, s3)) (s2 := (s4, s5, s6)) (s3 := (s7, s8, s9)) (s4 := (s10, s11, s12)) (s5 := (s13, s14, s15)) X3_27.out BU)
          have GB_29 := Lib.hid (setB_below GB_27.out L3 (.int .i64 nb.me) (.slice t1 t2 t3) (.slice t4 t5 t6) (.slice t7 t8 t9) (.slice t10 t11 t12) (.slice t13 t14 t15))
          have XQ_29 := Lib.hid (BU.box XQ_27.out (box_ne XQ_27.out X3_27.out rfl))
          have X7_29 := Lib.hid (BU.box X7_27.out (box_ne X7_27.out X3_27.out rfl))
          have N9_29 := Lib.hid (N9_27.out.keep (s1 := (s1, s2, s3)) (s2 := (s4, s5, s6)) (s3 := (s7, s8, s9)) (s4 := (s10, s11, s12)) (s5 := (s13, s14, s15)) X3_27.out BU)
          have X9_29 := Lib.hid (BU.box X9_27.out (by omega))
          have X10_29 := Lib.hid (BU.box X10_27.out (by omega))
          have NE_29 := Lib.hid (NE_27.out.keep (s1 := (s1, s2, s3)) (s2 := (s4, s5, s6)) (s3 := (s7, s8, s9)) (s4 := (s10, s11, s12)) (s5 := (s13, s14, s15)) X3_27.out BU)
          clear BU
          unfold setB at *
          generalize (((((w5.setCell ⟨b3, 0, none⟩ (.int .i64 nb.me)).setCell ⟨b3, 1, none⟩ (.slice t1 t2 t3)).setCell ⟨b3, 2, none⟩ (.slice t4 t5 t6)).setCell ⟨b3, 3, none⟩ (.slice t7 t8 t9)).setCell ⟨b3, 4, none⟩ (.slice t10 t11 t12)).setCell ⟨b3, 5, none⟩ (.slice t13 t14 t15) = w6 at *
          have xn0 := X4_29.out.cell 0
          have xn1 := X4_29.out.cell 1
          have xn2 := X4_29.out.cell 2
          have xn3 := X4_29.out.cell 3
          have xn4 := X4_29.out.cell 4
          have xn5 := X4_29.out.cell 5
          simp only [List.getElem?_toArray, List.getElem?_cons_zero, List.getElem?_cons_succ] at xn0 xn1 xn2 xn3 xn4 xn5
          have xd0 := X7_29.out.cell 0
          have xd1 := X7_29.out.cell 1
          simp only [List.getElem?_toArray, List.getElem?_cons_zero, List.getElem?_cons_succ] at xd0 xd1
          go_wp2_with fail
          have D := rforget_any b (o1, o2, o3) (o4, o5, o6) (o7, o8, o9) (o10, o11, o12) (o13, o14, o15) (i1, i2) f w6 N4_29.out.br (PI_1.out.few (by omega)).adv (PI_1.out.few (by omega)).ent
          rw [← forgetF_eq PI_1.out.ok.adv] at D
          rw [HLB.out] at D
          refine D.mono ?_
          rintro e7 w7 ⟨⟨⟨x4, x5, x6⟩, ⟨x7, x8, x9⟩, rfl, hbr⟩, hb⟩
          clear xn0 xn1 xn2 xn3 xn4 xn5 xd0 xd1
          have X3_30 := Lib.hid (X3_29.out.on hb)
          have X4_30 := Lib.hid (X4_29.out.on hb)
          have N3_30 := Lib.hid (N3_29.out.on hb)
          have N4_30 := Lib.hid (N4_29.out.on hb)
          have GB_30 := Lib.hid (GB_29.out.trans (hb.mono GB_29.out.size))
          have XQ_30 := Lib.hid (XQ_29.out.on hb)
          have X7_30 := Lib.hid (X7_29.out.on hb)
          have N9_30 := Lib.hid (N9_29.out.on hb)
          have X9_30 := Lib.hid (X9_29.out.on hb)
          have X10_30 := Lib.hid (X10_29.out.on hb)
          have NE_30 := Lib.hid (NE_29.out.on hb)
          clear X3_29 X4_29 N3_29 N4_29 GB_29 XQ_29 X7_29 N9_29 X9_29 X10_29 NE_29
          have hno : NearOwn w7 (o1, o2, o3) nb.near := by rw [ME1.out.2]; exact N4_30.out.no
          clear D hb
          have N4_31 := Lib.hid (BrN.mk hbr hno)
          clear hbr hno
          have xm0 := X4_30.out.cell 0
          have xm1 := X4_30.out.cell 1
          have xm2 := X4_30.out.cell 2
          have xm3 := X4_30.out.cell 3
          have xm4 := X4_30.out.cell 4
          have xm5 := X4_30.out.cell 5
          simp only [List.getElem?_toArray, List.getElem?_cons_zero, List.getElem?_cons_succ] at xm0 xm1 xm2 xm3 xm4 xm5
          have xmf0 := X4_30.out.fr 0
          have xmf1 := X4_30.out.fr 1
          have xmf2 := X4_30.out.fr 2
          have xmf3 := X4_30.out.fr 3
          have xmf4 := X4_30.out.fr 4
          have xmf5 := X4_30.out.fr 5
          have zz := X4_30.out.lt
          go_upto_region 19 with fail
          clear zz
          clear xm0 xm1 xm2 xm3 xm4 xm5 xmf0 xmf1 xmf2 xmf3 xmf4 xmf5
          have BU := but_setB w7 b4 (.int .i64 b.me) (.slice o1 o2 o3) (.slice x4 x5 x6) (.slice o7 o8 o9) (.slice x7 x8 x9) (.slice o13 o14 o15)
          have X3_32 := Lib.hid (BU.box X3_30.out (N34))
          have X4_32 := Lib.hid (setB_box X4_30.out (.int .i64 b.me) (.slice o1 o2 o3) (.slice x4 x5 x6) (.slice o7 o8 o9) (.slice x7 x8 x9) (.slice o13 o14 o15))
          have N3_32 := Lib.hid (N3_30.out.keep (s1 := (o1, o2, o3)) (s2 := (o4, o5, o6)) (s3 := (o7, o8, o9)) (s4 := (o10, o11, o12)) (s5 := (o13, o14, o15)) X4_30.out BU)
          have N4_32 := Lib.hid (N4_31.out.keep (s1 := (o1, o2, o3)) (s2 := (o4, o5, o6)) (s3 := (o7, o8, o9)) (s4 := (o10, o11, o12)) (s5 := (o13, o14, o15)) X4_30.out BU)
          have GB_32 := Lib.hid (setB_below GB_30.out L4 (.int .i64 b.me) (.slice o1 o2 o3) (.slice x4 x5 x6) (.slice o7 o8 o9) (.slice x7 x8 x9) (.slice o13 o14 o15))
          have XQ_32 := Lib.hid (BU.box XQ_30.out (box_ne XQ_30.out X4_30.out rfl))
          have X7_32 := Lib.hid (BU.box X7_30.out (box_ne X7_30.out X4_30.out rfl))
          have N9_32 := Lib.hid (N9_30.out.keep (s1 := (o1, o2, o3)) (s2 := (o4, o5, o6)) (s3 := (o7, o8, o9)) (s4 := (o10, o11, o12)) (s5 := (o13, o14, o15)) X4_30.out BU)
          have X9_32 := Lib.hid (BU.box X9_30.out (by omega))
          have X10_32 := Lib.hid (BU.box X10_30.out (by omega))
          have NE_32 := Lib.hid (NE_30.out.keep (s1 := (o1, o2, o3)) (s2 := (o4, o5, o6)) (s3 := (o7, o8, o9)) (s4 := (o10, o11, o12)) (s5 := (o13, o14, o15)) X4_30.out BU)
          clear BU
          unfold setB at *
          generalize (((((w7.setCell ⟨b4, 0, none⟩ (.int .i64 b.me)).setCell ⟨b4, 1, none⟩ (.slice o1 o2 o3)).setCell ⟨b4, 2, none⟩ (.slice x4 x5 x6)).setCell ⟨b4, 3, none⟩ (.slice o7 o8 o9)).setCell ⟨b4, 4, none⟩ (.slice x7 x8 x9)).setCell ⟨b4, 5, none⟩ (.slice o13 o14 o15) = w8 at *
          have hx4 : Box w8 b4 #[.int .i64 nb.me, .slice o1 o2 o3, .slice x4 x5 x6, .slice o7 o8 o9, .slice x7 x8 x9, .slice o13 o14 o15] 29 := by rw [ME1.out.1]; exact X4_32.out
          have X4_33 := Lib.hid (hx4)
          clear hx4
          have xm0 := X3_32.out.cell 0
          have xm1 := X3_32.out.cell 1
          have xm2 := X3_32.out.cell 2
          have xm3 := X3_32.out.cell 3
          have xm4 := X3_32.out.cell 4
          have xm5 := X3_32.out.cell 5
          simp only [List.getElem?_toArray, List.getElem?_cons_zero, List.getElem?_cons_succ] at xm0 xm1 xm2 xm3 xm4 xm5
          have xc0 := X7_32.out.cell 0
          have xc1 := X7_32.out.cell 1
          simp only [List.getElem?_toArray, List.getElem?_cons_zero, List.getElem?_cons_succ] at xc0 xc1
          have xn0 := X4_33.out.cell 0
          have xn1 := X4_33.out.cell 1
          have xn2 := X4_33.out.cell 2
          have xn3 := X4_33.out.cell 3
          have xn4 := X4_33.out.cell 4
          have xn5 := X4_33.out.cell 5
          simp only [List.getElem?_toArray, List.getElem?_cons_zero, List.getElem?_cons_succ] at xn0 xn1 xn2 xn3 xn4 xn5
          obtain ⟨la, hd1, hd2⟩ := N3_32.out.br.adv
          obtain ⟨lb, he1, he2⟩ := N4_32.out.br.adv
          have FD := find_any nb.me (.slice t1 t2 t3) (.slice t7 t8 t9) (.slice t10 t11 t12) (.slice t13 t14 t15) (t4, t5, t6) la nb.adv (i1, i2) _ hd1 hd2 PI2_26.out.fp
          have FB := Lib.hid (find_both he2 (i1, i2))
          have HE := Lib.hid he1
          have HE2 := Lib.hid he2
          clear he1 he2
          go_wp2_with fail
          rcases FB.out with ⟨hf, hfi⟩ | ⟨kn, ya, a, hf, hfi, hl1, hl2, hai, haid⟩
          · rw [hf] at FD
            refine FD.mono ?_
            rintro e9 w9 ⟨rfl, hb⟩
            clear xm0 xm1 xm2 xm3 xm4 xm5 xc0 xc1 xn0 xn1 xn2 xn3 xn4 xn5
            have X3_34 := Lib.hid (X3_32.out.on hb)
            have X4_34 := Lib.hid (X4_33.out.on hb)
            have N3_34 := Lib.hid (N3_32.out.on hb)
            have N4_34 := Lib.hid (N4_32.out.on hb)
            have GB_34 := Lib.hid (GB_32.out.trans (hb.mono GB_32.out.size))
            have XQ_34 := Lib.hid (XQ_32.out.on hb)
            have X7_34 := Lib.hid (X7_32.out.on hb)
            have N9_34 := Lib.hid (N9_32.out.on hb)
            have X9_34 := Lib.hid (X9_32.out.on hb)
            have X10_34 := Lib.hid (X10_32.out.on hb)
            have NE_34 := Lib.hid (NE_32.out.on hb)
            have HE_34 := Lib.hid (HE.out.on hb)
            clear X3_32 X4_33 N3_32 N4_32 GB_32 XQ_32 X7_32 N9_32 X9_32 X10_32 NE_32 HE
            clear FD hd1 hd2
            have NN := newB w9 (.cells #[.int .i64 0, .int .i64 0, .slice none 0 0, .int .i64 0] 42)
            have X3_35 := Lib.hid (X3_34.out.on NN)
            have X4_35 := Lib.hid (X4_34.out.on NN)
            have N3_35 := Lib.hid (N3_34.out.on NN)
            have N4_35 := Lib.hid (N4_34.out.on NN)
            have GB_35 := Lib.hid (GB_34.out.trans (NN.mono GB_34.out.size))
            have XQ_35 := Lib.hid (XQ_34.out.on NN)
            have X7_35 := Lib.hid (X7_34.out.on NN)
            have N9_35 := Lib.hid (N9_34.out.on NN)
            have X9_35 := Lib.hid (X9_34.out.on NN)
            have X10_35 := Lib.hid (X10_34.out.on NN)
            have NE_35 := Lib.hid (NE_34.out.on NN)
            have HE_35 := Lib.hid (HE_34.out.on NN)
            clear X3_34 X4_34 N3_34 N4_34 GB_34 XQ_34 X7_34 N9_34 X9_34 X10_34 NE_34 HE_34
            clear NN
            have X14_36 := Lib.hid (box_new w9 #[.int .i64 0, .int .i64 0, .slice none 0 0, .int .i64 0] 42)
            have xn0 := X4_35.out.cell 0
            have xn1 := X4_35.out.cell 1
            have xn2 := X4_35.out.cell 2
            have xn3 := X4_35.out.cell 3
            have xn4 := X4_35.out.cell 4
            have xn5 := X4_35.out.cell 5
            simp only [List.getElem?_toArray, List.getElem?_cons_zero, List.getElem?_cons_succ] at xn0 xn1 xn2 xn3 xn4 xn5
            have xc0 := X7_35.out.cell 0
            have xc1 := X7_35.out.cell 1
            simp only [List.getElem?_toArray, List.getElem?_cons_zero, List.getElem?_cons_succ] at xc0 xc1
            go_wp2_with fail
            generalize w9.alloc (.cells #[.int .i64 0, .int .i64 0, .slice none 0 0, .int .i64 0] 42) = w10 at *
            have FI := rfind_any nb.me (.slice o1 o2 o3) (.slice x7 x8 x9) (.slice o7 o8 o9) (.slice o13 o14 o15) (x4, x5, x6) lb (i1, i2) w10 HE_35.out
            rw [hfi] at FI
            refine FI.mono ?_
            rintro e11 w11 ⟨rfl, hb⟩
            clear xn0 xn1 xn2 xn3 xn4 xn5 xc0 xc1
            have X3_37 := Lib.hid (X3_35.out.on hb)
            have X4_37 := Lib.hid (X4_35.out.on hb)
            have N3_37 := Lib.hid (N3_35.out.on hb)
            have N4_37 := Lib.hid (N4_35.out.on hb)
            have GB_37 := Lib.hid (GB_35.out.trans (hb.mono GB_35.out.size))
            have XQ_37 := Lib.hid (XQ_35.out.on hb)
            have X7_37 := Lib.hid (X7_35.out.on hb)
            have N9_37 := Lib.hid (N9_35.out.on hb)
            have X9_37 := Lib.hid (X9_35.out.on hb)
            have X10_37 := Lib.hid (X10_35.out.on hb)
            have NE_37 := Lib.hid (NE_35.out.on hb)
            have HE_37 := Lib.hid (HE_35.out.on hb)
            have X14_37 := Lib.hid (X14_36.out.on hb)
            clear X3_35 X4_35 N3_35 N4_35 GB_35 XQ_35 X7_35 N9_35 X9_35 X10_35 NE_35 HE_35 X14_36
            clear FI hb
            go_upto_region 21 with fail
            refine play21n _ w11 b3 b4 w3.heap.size (w3.heap.size + 1) gt nb b t1 t2 t3 t4 t5 t6 t7 t8 t9 t10 t11 t12 t13 t14 t15 o1 o2 o3 x4 x5 x6 o7 o8 o9 x7 x8 x9 o13 o14 o15 y1 y2 y3 y4 y5 y6 y7 y8 y9 y10 y11 y12 y13 y14 y15 s1 s2 s3 s4 s5 s6 s7 s8 s9 s10 s11 s12 s13 s14 s15 _ _ _ _ _ _ _ _ _ _ _ _ _ _ _ _ _ _ _ _ _ _ _ _ _ _ _ _ _ _ _ _ _ _ _ _ _ _ _ _ _ _ _ _ _ _ _ _ _ _ _ _ _ _ _ _ _ _ _ _ _ _ _ _ _ _ _ _ _ _ _ _ _ _ _ _ _ _ _ _ _ _ _ _ _ _ _ _ _ _ _ _ _ _ _ _ _ _ _ _ _ _ _ _ _ _ _ _ _ _ _ _ _ _ _ _ _ _ _ _ _ _ _ _ _ _ _ _ _ _ _ _ _ _ _ _ _ _ _ _ X3_37.out X4_37.out X9_37.out X10_37.out N3_37.out N4_37.out N9_37.out NE_37.out (PI2_26.out.few (by omega)) PI2_26.out.fewp PI2_26.out.tame ((okBr_iff nb).2 PI2_26.out.ok) (PI_1.out.few (by omega)) PI_1.out.fewp ?_
            intro x21 v95 v96 v97 v98 v99 v100 v101 v102 v103 v104 v105 v106 v107 v108 v109 v110 v111 v112 v113 v114 v115 v116 v117 v118 v119 v120 v121 v122 v123 v124 v125 v126 v127 v128 v129 v130 v131 v132 v133 v134 v135 v136 v137 v138 v139 v140 v141 v142 v143 v144 v145 hbel
            have X3_38 := Lib.hid (X3_37.out.on hbel)
            have X4_38 := Lib.hid (X4_37.out.on hbel)
            have N3_38 := Lib.hid (N3_37.out.on hbel)
            have N4_38 := Lib.hid (N4_37.out.on hbel)
            have GB_38 := Lib.hid (GB_37.out.trans (hbel.mono GB_37.out.size))
            have XQ_38 := Lib.hid (XQ_37.out.on hbel)
            have X7_38 := Lib.hid (X7_37.out.on hbel)
            have N9_38 := Lib.hid (N9_37.out.on hbel)
            have X9_38 := Lib.hid (X9_37.out.on hbel)
            have X10_38 := Lib.hid (X10_37.out.on hbel)
            have NE_38 := Lib.hid (NE_37.out.on hbel)
            have HE_38 := Lib.hid (HE_37.out.on hbel)
            have X14_38 := Lib.hid (X14_37.out.on hbel)
            clear X3_37 X4_37 N3_37 N4_37 GB_37 XQ_37 X7_37 N9_37 X9_37 X10_37 NE_37 HE_37 X14_37
            go_wp2_with fail
            go_roundw
            case rel => exact ⟨k + 1, nb, t1, t2, t3, t4, t5, t6, t7, t8, t9, t10, t11, t12, t13, t14, t15, o1, o2, o3, x4, x5, x6, o7, o8, o9, x7, x8, x9, o13, o14, o15, by omega, by omega, by go_num, PI2_26.out, X3_38.out, X4_38.out, N3_38.out, N4_38.out, GB_38.out⟩
            case measure => simp [intOf]; omega
          · rw [hf] at FD
            refine FD.mono ?_
            rintro e9 w9 ⟨⟨⟨q1, q2, ⟨q3, q4, q5⟩, q6⟩, rfl, hci⟩, hb⟩
            clear xm0 xm1 xm2 xm3 xm4 xm5 xc0 xc1 xn0 xn1 xn2 xn3 xn4 xn5
            have X3_34 := Lib.hid (X3_32.out.on hb)
            have X4_34 := Lib.hid (X4_33.out.on hb)
            have N3_34 := Lib.hid (N3_32.out.on hb)
            have N4_34 := Lib.hid (N4_32.out.on hb)
            have GB_34 := Lib.hid (GB_32.out.trans (hb.mono GB_32.out.size))
            have XQ_34 := Lib.hid (XQ_32.out.on hb)
            have X7_34 := Lib.hid (X7_32.out.on hb)
            have N9_34 := Lib.hid (N9_32.out.on hb)
            have X9_34 := Lib.hid (X9_32.out.on hb)
            have X10_34 := Lib.hid (X10_32.out.on hb)
            have NE_34 := Lib.hid (NE_32.out.on hb)
            have HE_34 := Lib.hid (HE.out.on hb)
            clear X3_32 X4_33 N3_32 N4_32 GB_32 XQ_32 X7_32 N9_32 X9_32 X10_32 NE_32 HE
            clear FD hd1 hd2
            obtain ⟨ha1, ha2, _⟩ := hci
            obtain rfl : q6 = a.par := ha2
            obtain ⟨rfl, rfl⟩ : q1 = i1 ∧ q2 = i2 := by rw [haid] at ha1; simpa using ha1
            have NN := newB w9 (.cells #[.int .i64 q1, .int .i64 q2, .slice q3 q4 q5, .int .i64 a.par] 42)
            have X3_35 := Lib.hid (X3_34.out.on NN)
            have X4_35 := Lib.hid (X4_34.out.on NN)
            have N3_35 := Lib.hid (N3_34.out.on NN)
            have N4_35 := Lib.hid (N4_34.out.on NN)
            have GB_35 := Lib.hid (GB_34.out.trans (NN.mono GB_34.out.size))
            have XQ_35 := Lib.hid (XQ_34.out.on NN)
            have X7_35 := Lib.hid (X7_34.out.on NN)
            have N9_35 := Lib.hid (N9_34.out.on NN)
            have X9_35 := Lib.hid (X9_34.out.on NN)
            have X10_35 := Lib.hid (X10_34.out.on NN)
            have NE_35 := Lib.hid (NE_34.out.on NN)
            have HE_35 := Lib.hid (HE_34.out.on NN)
            clear X3_34 X4_34 N3_34 N4_34 GB_34 XQ_34 X7_34 N9_34 X9_34 X10_34 NE_34 HE_34
            clear NN
            have X14_36 := Lib.hid (box_new w9 #[.int .i64 q1, .int .i64 q2, .slice q3 q4 q5, .int .i64 a.par] 42)
            have xn0 := X4_35.out.cell 0
            have xn1 := X4_35.out.cell 1
            have xn2 := X4_35.out.cell 2
            have xn3 := X4_35.out.cell 3
            have xn4 := X4_35.out.cell 4
            have xn5 := X4_35.out.cell 5
            simp only [List.getElem?_toArray, List.getElem?_cons_zero, List.getElem?_cons_succ] at xn0 xn1 xn2 xn3 xn4 xn5
            have xc0 := X7_35.out.cell 0
            have xc1 := X7_35.out.cell 1
            simp only [List.getElem?_toArray, List.getElem?_cons_zero, List.getElem?_cons_succ] at xc0 xc1
            go_wp2_with fail
            generalize w9.alloc (.cells #[.int .i64 q1, .int .i64 q2, .slice q3 q4 q5, .int .i64 a.par] 42) = w10 at *
            have FI := rfind_any nb.me (.slice o1 o2 o3) (.slice x7 x8 x9) (.slice o7 o8 o9) (.slice o13 o14 o15) (x4, x5, x6) lb (q1, q2) w10 HE_35.out
            rw [hfi] at FI
            refine FI.mono ?_
            rintro e11 w11 ⟨rfl, hb⟩
            clear xn0 xn1 xn2 xn3 xn4 xn5 xc0 xc1
            have X3_37 := Lib.hid (X3_35.out.on hb)
            have X4_37 := Lib.hid (X4_35.out.on hb)
            have N3_37 := Lib.hid (N3_35.out.on hb)
            have N4_37 := Lib.hid (N4_35.out.on hb)
            have GB_37 := Lib.hid (GB_35.out.trans (hb.mono GB_35.out.size))
            have XQ_37 := Lib.hid (XQ_35.out.on hb)
            have X7_37 := Lib.hid (X7_35.out.on hb)
            have N9_37 := Lib.hid (N9_35.out.on hb)
            have X9_37 := Lib.hid (X9_35.out.on hb)
            have X10_37 := Lib.hid (X10_35.out.on hb)
            have NE_37 := Lib.hid (NE_35.out.on hb)
            have HE_37 := Lib.hid (HE_35.out.on hb)
            have X14_37 := Lib.hid (X14_36.out.on hb)
            clear X3_35 X4_35 N3_35 N4_35 GB_35 XQ_35 X7_35 N9_35 X9_35 X10_35 NE_35 HE_35 X14_36
            clear FI hb
            go_upto_region 21 with fail
            obtain ⟨_, _, hve⟩ := HE_37.out.len
            have hlen : lb.length = x5 := by simpa using (congrArg (fun v => match v with | Value.slice _ n _ => n | _ => 0) hve).symm
            obtain ⟨pp, ix, px⟩ := elD HE_37.out rfl hlen hl1
            have px3 : ∀ x, Below w11.heap.size w11 x → x.cell? ⟨pp.block, pp.off + 3, none⟩ = some (.int .i64 a.par) := fun x hx => by have h := (px x hx).2.2.2; rwa [hai.2.1] at h
            refine play21s _ w11 b3 b4 b7 w3.heap.size (w3.heap.size + 1) w9.heap.size gt nb b kn q1 q2 a.par pp q3 q4 q5 t1 t2 t3 t4 t5 t6 t7 t8 t9 t10 t11 t12 t13 t14 t15 o1 o2 o3 x4 x5 x6 o7 o8 o9 x7 x8 x9 o13 o14 o15 y1 y2 y3 y4 y5 y6 y7 y8 y9 y10 y11 y12 y13 y14 y15 s1 s2 s3 s4 s5 s6 s7 s8 s9 s10 s11 s12 s13 s14 s15 _ _ _ _ _ _ _ _ _ _ _ _ _ _ _ _ _ _ _ _ _ _ _ _ _ _ _ _ _ _ _ _ _ _ _ _ _ _ _ _ _ _ _ _ _ _ _ _ _ _ _ _ _ _ _ _ _ _ _ _ _ _ _ _ _ _ _ _ _ _ _ _ _ _ _ _ _ _ _ _ _ _ _ _ _ _ _ _ _ _ _ _ _ _ _ _ _ _ _ _ _ _ _ _ _ _ _ _ _ _ _ _ _ _ _ _ _ _ _ _ _ _ _ _ _ _ _ _ _ _ _ _ _ _ _ _ _ _ X3_37.out X4_37.out X9_37.out X10_37.out N3_37.out N4_37.out N9_37.out NE_37.out (PI2_26.out.few (by omega)) PI2_26.out.fewp PI2_26.out.tame ((okBr_iff nb).2 PI2_26.out.ok) (PI_1.out.few (by omega)) PI_1.out.fewp X7_37.out X14_37.out ix px3 ?_
            intro x21 v95 v96 v97 v98 v99 v100 v101 v102 v103 v104 v105 v106 v107 v108 v109 v110 v111 v112 v113 v114 v115 v116 v117 v118 v119 v120 v121 v122 v123 v124 v125 v126 v127 v128 v129 v130 v131 v132 v133 v134 v135 v136 v137 v138 v139 v140 v141 v142 v143 v144 v145 hbel
            have X3_38 := Lib.hid (X3_37.out.on hbel)
            have X4_38 := Lib.hid (X4_37.out.on hbel)
            have N3_38 := Lib.hid (N3_37.out.on hbel)
            have N4_38 := Lib.hid (N4_37.out.on hbel)
            have GB_38 := Lib.hid (GB_37.out.trans (hbel.mono GB_37.out.size))
            have XQ_38 := Lib.hid (XQ_37.out.on hbel)
            have X7_38 := Lib.hid (X7_37.out.on hbel)
            have N9_38 := Lib.hid (N9_37.out.on hbel)
            have X9_38 := Lib.hid (X9_37.out.on hbel)
            have X10_38 := Lib.hid (X10_37.out.on hbel)
            have NE_38 := Lib.hid (NE_37.out.on hbel)
            have HE_38 := Lib.hid (HE_37.out.on hbel)
            have X14_38 := Lib.hid (X14_37.out.on hbel)
            clear X3_37 X4_37 N3_37 N4_37 GB_37 XQ_37 X7_37 N9_37 X9_37 X10_37 NE_37 HE_37 X14_37
            go_wp2_with fail
            go_roundw
            case rel => exact ⟨k + 1, nb, t1, t2, t3, t4, t5, t6, t7, t8, t9, t10, t11, t12, t13, t14, t15, o1, o2, o3, x4, x5, x6, o7, o8, o9, x7, x8, x9, o13, o14, o15, by omega, by omega, by go_num, PI2_26.out, X3_38.out, X4_38.out, N3_38.out, N4_38.out, GB_38.out⟩
            case measure => simp [intOf]; omega
        · go_upto_region 14 with fail
          generalize ((w3.alloc (.cells #[.int .i64 b.me, .slice y1 y2 y3, .slice y4 y5 y6, .slice y7 y8 y9, .slice y10 y11 y12, .slice y13 y14 y15] 29)).alloc (.cells #[.int .i64 b.me, .slice s1 s2 s3, .slice s4 s5 s6, .slice s7 s8 s9, .slice s10 s11 s12, .slice s13 s14 s15] 29)) = w4 at *
          clear xq0 xq1 xq2 xq3 xq4 xq5 xm0 xm1 xm2 xm3 xm4 xm5 xc0 xc1
          clear D0_7 D1_8 D2_9 D3_10
          refine play14 _ w4 wr.heap.size b7 z0 z1 z2 z3 i1 i2 f h1 h2 h3 g1 g2 g3 has vals _ _ _ _ _ _ _ _ _ _ _ _ _ _ _ _ _ _ _ _ _ _ _ _ _ _ _ _ _ _ _ _ _ _ _ _ _ _ _ _ _ _ _ _ _ _ _ _ _ _ _ _ _ _ _ _ _ _ _ _ _ _ _ _ _ _ _ _ _ _ _ _ _ _ _ _ _ _ _ _ _ _ _ _ _ _ _ _ _ _ _ _ _ _ _ _ _ _ _ _ _ _ _ _ _ _ _ _ _ _ _ _ _ _ _ _ _ _ _ _ _ _ _ _ _ _ _ _ _ _ _ _ _ _ _ _ _ _ _ _ _ _ _ _ _ XQ_23.out X7_23.out IH_23.out IV_23.out LH_11.out LV_12.out ?_
          intro x13 b13 v54 v55 v56 v57 v58 v59 r1 r2 r3 hb13 hbox hoc hbel
          have X3_26 := Lib.hid (X3_23.out.on hbel)
          have X4_26 := Lib.hid (X4_23.out.on hbel)
          have N3_26 := Lib.hid (N3_23.out.on hbel)
          have N4_26 := Lib.hid (N4_23.out.on hbel)
          have GB_26 := Lib.hid (GB_23.out.trans (hbel.mono GB_23.out.size))
          have IH_26 := Lib.hid (IH_23.out.on hbel)
          have IV_26 := Lib.hid (IV_23.out.on hbel)
          have XQ_26 := Lib.hid (XQ_23.out.on hbel)
          have X7_26 := Lib.hid (X7_23.out.on hbel)
          have N9_26 := Lib.hid (N9_23.out.on hbel)
          have X9_26 := Lib.hid (X9_23.out.on hbel)
          have X10_26 := Lib.hid (X10_24.out.on hbel)
          have NE_26 := Lib.hid (NE_25.out.on hbel)
          clear X3_23 X4_23 N3_23 N4_23 GB_23 IH_23 IV_23 XQ_23 X7_23 N9_23 X9_23 X10_24 NE_25
          clear IH_26 IV_26
          have X13_27 := Lib.hid (hbox)
          have OC_28 := Lib.hid (hoc)
          clear hbel hbox hoc
          have xm0 := X3_26.out.cell 0
          have xm1 := X3_26.out.cell 1
          have xm2 := X3_26.out.cell 2
          have xm3 := X3_26.out.cell 3
          have xm4 := X3_26.out.cell 4
          have xm5 := X3_26.out.cell 5
          simp only [List.getElem?_toArray, List.getElem?_cons_zero, List.getElem?_cons_succ] at xm0 xm1 xm2 xm3 xm4 xm5
          have xd0 := X13_27.out.cell 0
          have xd1 := X13_27.out.cell 1
          have xd2 := X13_27.out.cell 2
          have xd3 := X13_27.out.cell 3
          simp only [List.getElem?_toArray, List.getElem?_cons_zero, List.getElem?_cons_succ] at xd0 xd1 xd2 xd3
          go_wp2_with fail
          have C := learn_any b ⟨(i1, i2), ((prd has vals 7).map r5), f⟩ (s1, s2, s3) (s4, s5, s6) (s7, s8, s9) (s10, s11, s12) (s13, s14, s15) (i1, i2, (r1, r2, r3), f) x13 N3_26.out.br ⟨rfl, rfl, Row.of_own OC_28.out⟩ (PI_1.out.few (by omega)) PI_1.out.fewp (Nat.le_trans (prd_len5 has vals) (by decide)) PI_1.out.ok.seen PI_1.out.ok.adv
          have hp2 := play_learn PI_1.out (i1, i2) ((prd has vals 7).map r5) f HF.out (prd_right5 has vals) (Nat.le_trans (prd_len5 has vals) (by decide))
          have me1 := learn_me b ⟨(i1, i2), ((prd has vals 7).map r5), f⟩
          obtain ⟨⟨nb, gt⟩, hlb⟩ : ∃ r : Br × Bool, learnB b ⟨(i1, i2), ((prd has vals 7).map r5), f⟩ = r := ⟨_, rfl⟩
          rw [hlb] at C hp2 me1
          simp only at hp2 me1
          have ME1 := Lib.hid me1
          have HLB := Lib.hid hlb
          clear me1 hlb
          have PI2_29 := Lib.hid (hp2)
          clear hp2
          refine C.mono ?_
          rintro e5 w5 ⟨⟨⟨t1, t2, t3⟩, ⟨t4, t5, t6⟩, ⟨t7, t8, t9⟩, ⟨t10, t11, t12⟩, ⟨t13, t14, t15⟩, rfl, hbr, hno⟩, hb⟩
          clear xm0 xm1 xm2 xm3 xm4 xm5 xd0 xd1 xd2 xd3
          have hno := hno N3_26.out.no
          have X3_30 := Lib.hid (X3_26.out.on hb)
          have X4_30 := Lib.hid (X4_26.out.on hb)
          have N3_30 := Lib.hid (N3_26.out.on hb)
          have N4_30 := Lib.hid (N4_26.out.on hb)
          have GB_30 := Lib.hid (GB_26.out.trans (hb.mono GB_26.out.size))
          have XQ_30 := Lib.hid (XQ_26.out.on hb)
          have X7_30 := Lib.hid (X7_26.out.on hb)
          have N9_30 := Lib.hid (N9_26.out.on hb)
          have X9_30 := Lib.hid (X9_26.out.on hb)
          have X10_30 := Lib.hid (X10_26.out.on hb)
          have NE_30 := Lib.hid (NE_26.out.on hb)
          have X13_30 := Lib.hid (X13_27.out.on hb)
          have OC_30 := Lib.hid (Bk.own_on OC_28.out hb)
          clear X3_26 X4_26 N3_26 N4_26 GB_26 XQ_26 X7_26 N9_26 X9_26 X10_26 NE_26 X13_27 OC_28
          clear C hb
          have N3_31 := Lib.hid (BrN.mk hbr hno)
          clear hbr hno
          have xm0 := X3_30.out.cell 0
          have xm1 := X3_30.out.cell 1
          have xm2 := X3_30.out.cell 2
          have xm3 := X3_30.out.cell 3
          have xm4 := X3_30.out.cell 4
          have xm5 := X3_30.out.cell 5
          simp only [List.getElem?_toArray, List.getElem?_cons_zero, List.getElem?_cons_succ] at xm0 xm1 xm2 xm3 xm4 xm5
          have xmf0 := X3_30.out.fr 0
          have xmf1 := X3_30.out.fr 1
          have xmf2 := X3_30.out.fr 2
          have xmf3 := X3_30.out.fr 3
          have xmf4 := X3_30.out.fr 4
          have xmf5 := X3_30.out.fr 5
          have zz := X3_30.out.lt
          go_upto_region 16 with fail
          clear zz
          clear xm0 xm1 xm2 xm3 xm4 xm5 xmf0 xmf1 xmf2 xmf3 xmf4 xmf5
          have BU := but_setB w5 b3 (.int .i64 nb.me) (.slice t1 t2 t3) (.slice t4 t5 t6) (.slice t7 t8 t9) (.slice t10 t11 t12) (.slice t13 t14 t15)
          have X3_32 := Lib.hid (setB_box X3_30.out (.int .i64 nb.me) (.slice t1 t2 t3) (.slice t4 t5 t6) (.slice t7 t8 t9) (.slice t10 t11 t12) (.slice t13 t14 t15))
          have X4_32 := Lib.hid (BU.box X4_30.out (N34.symm))
          have N3_32 := Lib.hid (N3_31.out.keep (s1 := (s1, s2, s3)) (s2 := (s4, s5, s6)) (s3 := (s7, s8, s9)) (s4 := (s10, s11, s12)) (s5 := (s13, s14, s15)) X3_30.out BU)
          have N4_32 := Lib.hid (N4_30.out.keep (s1 := (s1, s2, s3)) (s2 := (s4, s5, s6)) (s3 := (s7, s8, s9)) (s4 := (s10, s11, s12)) (s5 := (s13, s14, s15)) X3_30.out BU)
          have GB_32 := Lib.hid (setB_below GB_30.out L3 (.int .i64 nb.me) (.slice t1 t2 t3) (.slice t4 t5 t6) (.slice t7 t8 t9) (.slice t10 t11 t12) (.slice t13 t14 t15))
          have XQ_32 := Lib.hid (BU.box XQ_30.out (box_ne XQ_30.out X3_30.out rfl))
          have X7_32 := Lib.hid (BU.box X7_30.out (box_ne X7_30.out X3_30.out rfl))
          have N9_32 := Lib.hid (N9_30.out.keep (s1 := (s1, s2, s3)) (s2 := (s4, s5, s6)) (s3 := (s7, s8, s9)) (s4 := (s10, s11, s12)) (s5 := (s13, s14, s15)) X3_30.out BU)
          have X9_32 := Lib.hid (BU.box X9_30.out (by omega))
          have X10_32 := Lib.hid (BU.box X10_30.out (by omega))
          have NE_32 := Lib.hid (NE_30.out.keep (s1 := (s1, s2, s3)) (s2 := (s4, s5, s6)) (s3 := (s7, s8, s9)) (s4 := (s10, s11, s12)) (s5 := (s13, s14, s15)) X3_30.out BU)
          have X13_32 := Lib.hid (BU.box X13_30.out (box_ne X13_30.out X3_30.out rfl))
          have OC_32 := Lib.hid (BU.own OC_30.out X3_30.out (by decide))
          clear BU
          unfold setB at *
          generalize (((((w5.setCell ⟨b3, 0, none⟩ (.int .i64 nb.me)).setCell ⟨b3, 1, none⟩ (.slice t1 t2 t3)).setCell ⟨b3, 2, none⟩ (.slice t4 t5 t6)).setCell ⟨b3, 3, none⟩ (.slice t7 t8 t9)).setCell ⟨b3, 4, none⟩ (.slice t10 t11 t12)).setCell ⟨b3, 5, none⟩ (.slice t13 t14 t15) = w6 at *
          have xn0 := X4_32.out.cell 0
          have xn1 := X4_32.out.cell 1
          have xn2 := X4_32.out.cell 2
          have xn3 := X4_32.out.cell 3
          have xn4 := X4_32.out.cell 4
          have xn5 := X4_32.out.cell 5
          simp only [List.getElem?_toArray, List.getElem?_cons_zero, List.getElem?_cons_succ] at xn0 xn1 xn2 xn3 xn4 xn5
          have xd0 := X13_32.out.cell 0
          have xd1 := X13_32.out.cell 1
          have xd2 := X13_32.out.cell 2
          have xd3 := X13_32.out.cell 3
          simp only [List.getElem?_toArray, List.getElem?_cons_zero, List.getElem?_cons_succ] at xd0 xd1 xd2 xd3
          go_wp2_with fail
          have D := rlearn_any b (o1, o2, o3) (o4, o5, o6) (o7, o8, o9) (o10, o11, o12) (o13, o14, o15) (i1, i2, (r1, r2, r3), f) ⟨(i1, i2), ((prd has vals 7).map r5), f⟩ w6 N4_32.out.br ⟨rfl, rfl, Row.of_own OC_32.out⟩ (PI_1.out.few (by omega)).seen (PI_1.out.few (by omega)).adv
          rw [HLB.out] at D
          refine D.mono ?_
          rintro e7 w7 ⟨⟨⟨x4, x5, x6⟩, ⟨x7, x8, x9⟩, rfl, hbr⟩, hb⟩
          clear xn0 xn1 xn2 xn3 xn4 xn5 xd0 xd1 xd2 xd3
          have X3_33 := Lib.hid (X3_32.out.on hb)
          have X4_33 := Lib.hid (X4_32.out.on hb)
          have N3_33 := Lib.hid (N3_32.out.on hb)
          have N4_33 := Lib.hid (N4_32.out.on hb)
          have GB_33 := Lib.hid (GB_32.out.trans (hb.mono GB_32.out.size))
          have XQ_33 := Lib.hid (XQ_32.out.on hb)
          have X7_33 := Lib.hid (X7_32.out.on hb)
          have N9_33 := Lib.hid (N9_32.out.on hb)
          have X9_33 := Lib.hid (X9_32.out.on hb)
          have X10_33 := Lib.hid (X10_32.out.on hb)
          have NE_33 := Lib.hid (NE_32.out.on hb)
          have X13_33 := Lib.hid (X13_32.out.on hb)
          have OC_33 := Lib.hid (Bk.own_on OC_32.out hb)
          clear X3_32 X4_32 N3_32 N4_32 GB_32 XQ_32 X7_32 N9_32 X9_32 X10_32 NE_32 X13_32 OC_32
          have hno : NearOwn w7 (o1, o2, o3) nb.near := by rw [ME1.out.2]; exact N4_33.out.no
          clear D hb
          have N4_34 := Lib.hid (BrN.mk hbr hno)
          clear hbr hno
          have xm0 := X4_33.out.cell 0
          have xm1 := X4_33.out.cell 1
          have xm2 := X4_33.out.cell 2
          have xm3 := X4_33.out.cell 3
          have xm4 := X4_33.out.cell 4
          have xm5 := X4_33.out.cell 5
          simp only [List.getElem?_toArray, List.getElem?_cons_zero, List.getElem?_cons_succ] at xm0 xm1 xm2 xm3 xm4 xm5
          have xmf0 := X4_33.out.fr 0
          have xmf1 := X4_33.out.fr 1
          have xmf2 := X4_33.out.fr 2
          have xmf3 := X4_33.out.fr 3
          have xmf4 := X4_33.out.fr 4
          have xmf5 := X4_33.out.fr 5
          have zz := X4_33.out.lt
          go_upto_region 19 with fail
          clear zz
          clear xm0 xm1 xm2 xm3 xm4 xm5 xmf0 xmf1 xmf2 xmf3 xmf4 xmf5
          have BU := but_setB w7 b4 (.int .i64 b.me) (.slice o1 o2 o3) (.slice x4 x5 x6) (.slice x7 x8 x9) (.slice o10 o11 o12) (.slice o13 o14 o15)
          have X3_35 := Lib.hid (BU.box X3_33.out (N34))
          have X4_35 := Lib.hid (setB_box X4_33.out (.int .i64 b.me) (.slice o1 o2 o3) (.slice x4 x5 x6) (.slice x7 x8 x9) (.slice o10 o11 o12) (.slice o13 o14 o15))
          have N3_35 := Lib.hid (N3_33.out.keep (s1 := (o1, o2, o3)) (s2 := (o4, o5, o6)) (s3 := (o7, o8, o9)) (s4 := (o10, o11, o12)) (s5 := (o13, o14, o15)) X4_33.out BU)
          have N4_35 := Lib.hid (N4_34.out.keep (s1 := (o1, o2, o3)) (s2 := (o4, o5, o6)) (s3 := (o7, o8, o9)) (s4 := (o10, o11, o12)) (s5 := (o13, o14, o15)) X4_33.out BU)
          have GB_35 := Lib.hid (setB_below GB_33.out L4 (.int .i64 b.me) (.slice o1 o2 o3) (.slice x4 x5 x6) (.slice x7 x8 x9) (.slice o10 o11 o12) (.slice o13 o14 o15))
          have XQ_35 := Lib.hid (BU.box XQ_33.out (box_ne XQ_33.out X4_33.out rfl))
          have X7_35 := Lib.hid (BU.box X7_33.out (box_ne X7_33.out X4_33.out rfl))
          have N9_35 := Lib.hid (N9_33.out.keep (s1 := (o1, o2, o3)) (s2 := (o4, o5, o6)) (s3 := (o7, o8, o9)) (s4 := (o10, o11, o12)) (s5 := (o13, o14, o15)) X4_33.out BU)
          have X9_35 := Lib.hid (BU.box X9_33.out (by omega))
          have X10_35 := Lib.hid (BU.box X10_33.out (by omega))
          have NE_35 := Lib.hid (NE_33.out.keep (s1 := (o1, o2, o3)) (s2 := (o4, o5, o6)) (s3 := (o7, o8, o9)) (s4 := (o10, o11, o12)) (s5 := (o13, o14, o15)) X4_33.out BU)
          have X13_35 := Lib.hid (BU.box X13_33.out (box_ne X13_33.out X4_33.out rfl))
          have OC_35 := Lib.hid (BU.own OC_33.out X4_33.out (by decide))
          clear BU
          unfold setB at *
          generalize (((((w7.setCell ⟨b4, 0, none⟩ (.int .i64 b.me)).setCell ⟨b4, 1, none⟩ (.slice o1 o2 o3)).setCell ⟨b4, 2, none⟩ (.slice x4 x5 x6)).setCell ⟨b4, 3, none⟩ (.slice x7 x8 x9)).setCell ⟨b4, 4, none⟩ (.slice o10 o11 o12)).setCell ⟨b4, 5, none⟩ (.slice o13 o14 o15) = w8 at *
          have hx4 : Box w8 b4 #[.int .i64 nb.me, .slice o1 o2 o3, .slice x4 x5 x6, .slice x7 x8 x9, .slice o10 o11 o12, .slice o13 o14 o15] 29 := by rw [ME1.out.1]; exact X4_35.out
          have X4_36 := Lib.hid (hx4)
          clear hx4
          clear X13_35 OC_35
          have xm0 := X3_35.out.cell 0
          have xm1 := X3_35.out.cell 1
          have xm2 := X3_35.out.cell 2
          have xm3 := X3_35.out.cell 3
          have xm4 := X3_35.out.cell 4
          have xm5 := X3_35.out.cell 5
          simp only [List.getElem?_toArray, List.getElem?_cons_zero, List.getElem?_cons_succ] at xm0 xm1 xm2 xm3 xm4 xm5
          have xc0 := X7_35.out.cell 0
          have xc1 := X7_35.out.cell 1
          simp only [List.getElem?_toArray, List.getElem?_cons_zero, List.getElem?_cons_succ] at xc0 xc1
          have xn0 := X4_36.out.cell 0
          have xn1 := X4_36.out.cell 1
          have xn2 := X4_36.out.cell 2
          have xn3 := X4_36.out.cell 3
          have xn4 := X4_36.out.cell 4
          have xn5 := X4_36.out.cell 5
          simp only [List.getElem?_toArray, List.getElem?_cons_zero, List.getElem?_cons_succ] at xn0 xn1 xn2 xn3 xn4 xn5
          obtain ⟨la, hd1, hd2⟩ := N3_35.out.br.adv
          obtain ⟨lb, he1, he2⟩ := N4_35.out.br.adv
          have FD := find_any nb.me (.slice t1 t2 t3) (.slice t7 t8 t9) (.slice t10 t11 t12) (.slice t13 t14 t15) (t4, t5, t6) la nb.adv (i1, i2) _ hd1 hd2 PI2_29.out.fp
          have FB := Lib.hid (find_both he2 (i1, i2))
          have HE := Lib.hid he1
          have HE2 := Lib.hid he2
          clear he1 he2
          go_wp2_with fail
          rcases FB.out with ⟨hf, hfi⟩ | ⟨kn, ya, a, hf, hfi, hl1, hl2, hai, haid⟩
          · rw [hf] at FD
            refine FD.mono ?_
            rintro e9 w9 ⟨rfl, hb⟩
            clear xm0 xm1 xm2 xm3 xm4 xm5 xc0 xc1 xn0 xn1 xn2 xn3 xn4 xn5
            have X3_37 := Lib.hid (X3_35.out.on hb)
            have X4_37 := Lib.hid (X4_36.out.on hb)
            have N3_37 := Lib.hid (N3_35.out.on hb)
            have N4_37 := Lib.hid (N4_35.out.on hb)
            have GB_37 := Lib.hid (GB_35.out.trans (hb.mono GB_35.out.size))
            have XQ_37 := Lib.hid (XQ_35.out.on hb)
            have X7_37 := Lib.hid (X7_35.out.on hb)
            have N9_37 := Lib.hid (N9_35.out.on hb)
            have X9_37 := Lib.hid (X9_35.out.on hb)
            have X10_37 := Lib.hid (X10_35.out.on hb)
            have NE_37 := Lib.hid (NE_35.out.on hb)
            have HE_37 := Lib.hid (HE.out.on hb)
            clear X3_35 X4_36 N3_35 N4_35 GB_35 XQ_35 X7_35 N9_35 X9_35 X10_35 NE_35 HE
            clear FD hd1 hd2
            have NN := newB w9 (.cells #[.int .i64 0, .int .i64 0, .slice none 0 0, .int .i64 0] 42)
            have X3_38 := Lib.hid (X3_37.out.on NN)
            have X4_38 := Lib.hid (X4_37.out.on NN)
            have N3_38 := Lib.hid (N3_37.out.on NN)
            have N4_38 := Lib.hid (N4_37.out.on NN)
            have GB_38 := Lib.hid (GB_37.out.trans (NN.mono GB_37.out.size))
            have XQ_38 := Lib.hid (XQ_37.out.on NN)
            have X7_38 := Lib.hid (X7_37.out.on NN)
            have N9_38 := Lib.hid (N9_37.out.on NN)
            have X9_38 := Lib.hid (X9_37.out.on NN)
            have X10_38 := Lib.hid (X10_37.out.on NN)
            have NE_38 := Lib.hid (NE_37.out.on NN)
            have HE_38 := Lib.hid (HE_37.out.on NN)
            clear X3_37 X4_37 N3_37 N4_37 GB_37 XQ_37 X7_37 N9_37 X9_37 X10_37 NE_37 HE_37
            clear NN
            have X14_39 := Lib.hid (box_new w9 #[.int .i64 0, .int .i64 0, .slice none 0 0, .int .i64 0] 42)
            have xn0 := X4_38.out.cell 0
            have xn1 := X4_38.out.cell 1
            have xn2 := X4_38.out.cell 2
            have xn3 := X4_38.out.cell 3
            have xn4 := X4_38.out.cell 4
            have xn5 := X4_38.out.cell 5
            simp only [List.getElem?_toArray, List.getElem?_cons_zero, List.getElem?_cons_succ] at xn0 xn1 xn2 xn3 xn4 xn5
            have xc0 := X7_38.out.cell 0
            have xc1 := X7_38.out.cell 1
            simp only [List.getElem?_toArray, List.getElem?_cons_zero, List.getElem?_cons_succ] at xc0 xc1
            go_wp2_with fail
            generalize w9.alloc (.cells #[.int .i64 0, .int .i64 0, .slice none 0 0, .int .i64 0] 42) = w10 at *
            have FI := rfind_any nb.me (.slice o1 o2 o3) (.slice o10 o11 o12) (.slice x7 x8 x9) (.slice o13 o14 o15) (x4, x5, x6) lb (i1, i2) w10 HE_38.out
            rw [hfi] at FI
            refine FI.mono ?_
            rintro e11 w11 ⟨rfl, hb⟩
            clear xn0 xn1 xn2 xn3 xn4 xn5 xc0 xc1
            have X3_40 := Lib.hid (X3_38.out.on hb)
            have X4_40 := Lib.hid (X4_38.out.on hb)
            have N3_40 := Lib.hid (N3_38.out.on hb)
            have N4_40 := Lib.hid (N4_38.out.on hb)
            have GB_40 := Lib.hid (GB_38.out.trans (hb.mono GB_38.out.size))
            have XQ_40 := Lib.hid (XQ_38.out.on hb)
            have X7_40 := Lib.hid (X7_38.out.on hb)
            have N9_40 := Lib.hid (N9_38.out.on hb)
            have X9_40 := Lib.hid (X9_38.out.on hb)
            have X10_40 := Lib.hid (X10_38.out.on hb)
            have NE_40 := Lib.hid (NE_38.out.on hb)
            have HE_40 := Lib.hid (HE_38.out.on hb)
            have X14_40 := Lib.hid (X14_39.out.on hb)
            clear X3_38 X4_38 N3_38 N4_38 GB_38 XQ_38 X7_38 N9_38 X9_38 X10_38 NE_38 HE_38 X14_39
            clear FI hb
            go_upto_region 21 with fail
            refine play21n _ w11 b3 b4 w3.heap.size (w3.heap.size + 1) gt nb b t1 t2 t3 t4 t5 t6 t7 t8 t9 t10 t11 t12 t13 t14 t15 o1 o2 o3 x4 x5 x6 x7 x8 x9 o10 o11 o12 o13 o14 o15 y1 y2 y3 y4 y5 y6 y7 y8 y9 y10 y11 y12 y13 y14 y15 s1 s2 s3 s4 s5 s6 s7 s8 s9 s10 s11 s12 s13 s14 s15 _ _ _ _ _ _ _ _ _ _ _ _ _ _ _ _ _ _ _ _ _ _ _ _ _ _ _ _ _ _ _ _ _ _ _ _ _ _ _ _ _ _ _ _ _ _ _ _ _ _ _ _ _ _ _ _ _ _ _ _ _ _ _ _ _ _ _ _ _ _ _ _ _ _ _ _ _ _ _ _ _ _ _ _ _ _ _ _ _ _ _ _ _ _ _ _ _ _ _ _ _ _ _ _ _ _ _ _ _ _ _ _ _ _ _ _ _ _ _ _ _ _ _ _ _ _ _ _ _ _ _ _ _ _ _ _ _ _ _ _ X3_40.out X4_40.out X9_40.out X10_40.out N3_40.out N4_40.out N9_40.out NE_40.out (PI2_29.out.few (by omega)) PI2_29.out.fewp PI2_29.out.tame ((okBr_iff nb).2 PI2_29.out.ok) (PI_1.out.few (by omega)) PI_1.out.fewp ?_
            intro x21 v95 v96 v97 v98 v99 v100 v101 v102 v103 v104 v105 v106 v107 v108 v109 v110 v111 v112 v113 v114 v115 v116 v117 v118 v119 v120 v121 v122 v123 v124 v125 v126 v127 v128 v129 v130 v131 v132 v133 v134 v135 v136 v137 v138 v139 v140 v141 v142 v143 v144 v145 hbel
            have X3_41 := Lib.hid (X3_40.out.on hbel)
            have X4_41 := Lib.hid (X4_40.out.on hbel)
            have N3_41 := Lib.hid (N3_40.out.on hbel)
            have N4_41 := Lib.hid (N4_40.out.on hbel)
            have GB_41 := Lib.hid (GB_40.out.trans (hbel.mono GB_40.out.size))
            have XQ_41 := Lib.hid (XQ_40.out.on hbel)
            have X7_41 := Lib.hid (X7_40.out.on hbel)
            have N9_41 := Lib.hid (N9_40.out.on hbel)
            have X9_41 := Lib.hid (X9_40.out.on hbel)
            have X10_41 := Lib.hid (X10_40.out.on hbel)
            have NE_41 := Lib.hid (NE_40.out.on hbel)
            have HE_41 := Lib.hid (HE_40.out.on hbel)
            have X14_41 := Lib.hid (X14_40.out.on hbel)
            clear X3_40 X4_40 N3_40 N4_40 GB_40 XQ_40 X7_40 N9_40 X9_40 X10_40 NE_40 HE_40 X14_40
            go_wp2_with fail
            go_roundw
            case rel => exact ⟨k + 1, nb, t1, t2, t3, t4, t5, t6, t7, t8, t9, t10, t11, t12, t13, t14, t15, o1, o2, o3, x4, x5, x6, x7, x8, x9, o10, o11, o12, o13, o14, o15, by omega, by omega, by go_num, PI2_29.out, X3_41.out, X4_41.out, N3_41.out, N4_41.out, GB_41.out⟩
            case measure => simp [intOf]; omega
          · rw [hf] at FD
            refine FD.mono ?_
            rintro e9 w9 ⟨⟨⟨q1, q2, ⟨q3, q4, q5⟩, q6⟩, rfl, hci⟩, hb⟩
            clear xm0 xm1 xm2 xm3 xm4 xm5 xc0 xc1 xn0 xn1 xn2 xn3 xn4 xn5
            have X3_37 := Lib.hid (X3_35.out.on hb)
            have X4_37 := Lib.hid (X4_36.out.on hb)
            have N3_37 := Lib.hid (N3_35.out.on hb)
            have N4_37 := Lib.hid (N4_35.out.on hb)
            have GB_37 := Lib.hid (GB_35.out.trans (hb.mono GB_35.out.size))
            have XQ_37 := Lib.hid (XQ_35.out.on hb)
            have X7_37 := Lib.hid (X7_35.out.on hb)
            have N9_37 := Lib.hid (N9_35.out.on hb)
            have X9_37 := Lib.hid (X9_35.out.on hb)
            have X10_37 := Lib.hid (X10_35.out.on hb)
            have NE_37 := Lib.hid (NE_35.out.on hb)
            have HE_37 := Lib.hid (HE.out.on hb)
            clear X3_35 X4_36 N3_35 N4_35 GB_35 XQ_35 X7_35 N9_35 X9_35 X10_35 NE_35 HE
            clear FD hd1 hd2
            obtain ⟨ha1, ha2, _⟩ := hci
            obtain rfl : q6 = a.par := ha2
            obtain ⟨rfl, rfl⟩ : q1 = i1 ∧ q2 = i2 := by rw [haid] at ha1; simpa using ha1
            have NN := newB w9 (.cells #[.int .i64 q1, .int .i64 q2, .slice q3 q4 q5, .int .i64 a.par] 42)
            have X3_38 := Lib.hid (X3_37.out.on NN)
            have X4_38 := Lib.hid (X4_37.out.on NN)
            have N3_38 := Lib.hid (N3_37.out.on NN)
            have N4_38 := Lib.hid (N4_37.out.on NN)
            have GB_38 := Lib.hid (GB_37.out.trans (NN.mono GB_37.out.size))
            have XQ_38 := Lib.hid (XQ_37.out.on NN)
            have X7_38 := Lib.hid (X7_37.out.on NN)
            have N9_38 := Lib.hid (N9_37.out.on NN)
            have X9_38 := Lib.hid (X9_37.out.on NN)
            have X10_38 := Lib.hid (X10_37.out.on NN)
            have NE_38 := Lib.hid (NE_37.out.on NN)
            have HE_38 := Lib.hid (HE_37.out.on NN)
            clear X3_37 X4_37 N3_37 N4_37 GB_37 XQ_37 X7_37 N9_37 X9_37 X10_37 NE_37 HE_37
            clear NN
            have X14_39 := Lib.hid (box_new w9 #[.int .i64 q1, .int .i64 q2, .slice q3 q4 q5, .int .i64 a.par] 42)
            have xn0 := X4_38.out.cell 0
            have xn1 := X4_38.out.cell 1
            have xn2 := X4_38.out.cell 2
            have xn3 := X4_38.out.cell 3
            have xn4 := X4_38.out.cell 4
            have xn5 := X4_38.out.cell 5
            simp only [List.getElem?_toArray, List.getElem?_cons_zero, List.getElem?_cons_succ] at xn0 xn1 xn2 xn3 xn4 xn5
            have xc0 := X7_38.out.cell 0
            have xc1 := X7_38.out.cell 1
            simp only [List.getElem?_toArray, List.getElem?_cons_zero, List.getElem?_cons_succ] at xc0 xc1
            go_wp2_with fail
            generalize w9.alloc (.cells #[.int .i64 q1, .int .i64 q2, .slice q3 q4 q5, .int .i64 a.par] 42) = w10 at *
            have FI := rfind_any nb.me (.slice o1 o2 o3) (.slice o10 o11 o12) (.slice x7 x8 x9) (.slice o13 o14 o15) (x4, x5, x6) lb (q1, q2) w10 HE_38.out
            rw [hfi] at FI
            refine FI.mono ?_
            rintro e11 w11 ⟨rfl, hb⟩
            clear xn0 xn1 xn2 xn3 xn4 xn5 xc0 xc1
            have X3_40 := Lib.hid (X3_38.out.on hb)
            have X4_40 := Lib.hid (X4_38.out.on hb)
            have N3_40 := Lib.hid (N3_38.out.on hb)
            have N4_40 := Lib.hid (N4_38.out.on hb)
            have GB_40 := Lib.hid (GB_38.out.trans (hb.mono GB_38.out.size))
            have XQ_40 := Lib.hid (XQ_38.out.on hb)
            have X7_40 := Lib.hid (X7_38.out.on hb)
            have N9_40 := Lib.hid (N9_38.out.on hb)
            have X9_40 := Lib.hid (X9_38.out.on hb)
            have X10_40 := Lib.hid (X10_38.out.on hb)
            have NE_40 := Lib.hid (NE_38.out.on hb)
            have HE_40 := Lib.hid (HE_38.out.on hb)
            have X14_40 := Lib.hid (X14_39.out.on hb)
            clear X3_38 X4_38 N3_38 N4_38 GB_38 XQ_38 X7_38 N9_38 X9_38 X10_38 NE_38 HE_38 X14_39
            clear FI hb
            go_upto_region 21 with fail
            obtain ⟨_, _, hve⟩ := HE_40.out.len
            have hlen : lb.length = x5 := by simpa using (congrArg (fun v => match v with | Value.slice _ n _ => n | _ => 0) hve).symm
            obtain ⟨pp, ix, px⟩ := elD HE_40.out rfl hlen hl1
            have px3 : ∀ x, Below w11.heap.size w11 x → x.cell? ⟨pp.block, pp.off + 3, none⟩ = some (.int .i64 a.par) := fun x hx => by have h := (px x hx).2.2.2; rwa [hai.2.1] at h
            refine play21s _ w11 b3 b4 b7 w3.heap.size (w3.heap.size + 1) w9.heap.size gt nb b kn q1 q2 a.par pp q3 q4 q5 t1 t2 t3 t4 t5 t6 t7 t8 t9 t10 t11 t12 t13 t14 t15 o1 o2 o3 x4 x5 x6 x7 x8 x9 o10 o11 o12 o13 o14 o15 y1 y2 y3 y4 y5 y6 y7 y8 y9 y10 y11 y12 y13 y14 y15 s1 s2 s3 s4 s5 s6 s7 s8 s9 s10 s11 s12 s13 s14 s15 _ _ _ _ _ _ _ _ _ _ _ _ _ _ _ _ _ _ _ _ _ _ _ _ _ _ _ _ _ _ _ _ _ _ _ _ _ _ _ _ _ _ _ _ _ _ _ _ _ _ _ _ _ _ _ _ _ _ _ _ _ _ _ _ _ _ _ _ _ _ _ _ _ _ _ _ _ _ _ _ _ _ _ _ _ _ _ _ _ _ _ _ _ _ _ _ _ _ _ _ _ _ _ _ _ _ _ _ _ _ _ _ _ _ _ _ _ _ _ _ _ _ _ _ _ _ _ _ _ _ _ _ _ _ _ _ _ _ X3_40.out X4_40.out X9_40.out X10_40.out N3_40.out N4_40.out N9_40.out NE_40.out (PI2_29.out.few (by omega)) PI2_29.out.fewp PI2_29.out.tame ((okBr_iff nb).2 PI2_29.out.ok) (PI_1.out.few (by omega)) PI_1.out.fewp X7_40.out X14_40.out ix px3 ?_
            intro x21 v95 v96 v97 v98 v99 v100 v101 v102 v103 v104 v105 v106 v107 v108 v109 v110 v111 v112 v113 v114 v115 v116 v117 v118 v119 v120 v121 v122 v123 v124 v125 v126 v127 v128 v129 v130 v131 v132 v133 v134 v135 v136 v137 v138 v139 v140 v141 v142 v143 v144 v145 hbel
            have X3_41 := Lib.hid (X3_40.out.on hbel)
            have X4_41 := Lib.hid (X4_40.out.on hbel)
            have N3_41 := Lib.hid (N3_40.out.on hbel)
            have N4_41 := Lib.hid (N4_40.out.on hbel)
            have GB_41 := Lib.hid (GB_40.out.trans (hbel.mono GB_40.out.size))
            have XQ_41 := Lib.hid (XQ_40.out.on hbel)
            have X7_41 := Lib.hid (X7_40.out.on hbel)
            have N9_41 := Lib.hid (N9_40.out.on hbel)
            have X9_41 := Lib.hid (X9_40.out.on hbel)
            have X10_41 := Lib.hid (X10_40.out.on hbel)
            have NE_41 := Lib.hid (NE_40.out.on hbel)
            have HE_41 := Lib.hid (HE_40.out.on hbel)
            have X14_41 := Lib.hid (X14_40.out.on hbel)
            clear X3_40 X4_40 N3_40 N4_40 GB_40 XQ_40 X7_40 N9_40 X9_40 X10_40 NE_40 HE_40 X14_40
            go_wp2_with fail
            go_roundw
            case rel => exact ⟨k + 1, nb, t1, t2, t3, t4, t5, t6, t7, t8, t9, t10, t11, t12, t13, t14, t15, o1, o2, o3, x4, x5, x6, x7, x8, x9, o10, o11, o12, o13, o14, o15, by omega, by omega, by go_num, PI2_29.out, X3_41.out, X4_41.out, N3_41.out, N4_41.out, GB_41.out⟩
            case measure => simp [intOf]; omega
      · have HF := Lib.hid (show (1 : Int) = -1 ∨ (1 : Int) = 1 ∨ (1 : Int) = 2 ∨ (1 : Int) = 3 from by decide)
        have xm0 := X3_17.out.cell 0
        have xm1 := X3_17.out.cell 1
        have xm2 := X3_17.out.cell 2
        have xm3 := X3_17.out.cell 3
        have xm4 := X3_17.out.cell 4
        have xm5 := X3_17.out.cell 5
        simp only [List.getElem?_toArray, List.getElem?_cons_zero, List.getElem?_cons_succ] at xm0 xm1 xm2 xm3 xm4 xm5
        go_wp2_with fail
        clear hf0 WB
        have C := copy_any b (s1, s2, s3) (s4, s5, s6) (s7, s8, s9) (s10, s11, s12) (s13, s14, s15) _ N3_17.out.br (PI_1.out.few (by omega))
        refine C.mono ?_
        rintro e3 w3 ⟨⟨⟨y1, y2, y3⟩, ⟨y4, y5, y6⟩, ⟨y7, y8, y9⟩, ⟨y10, y11, y12⟩, ⟨y13, y14, y15⟩, rfl, hown⟩, hb⟩
        clear xm0 xm1 xm2 xm3 xm4 xm5
        have X3_19 := Lib.hid (X3_17.out.on hb)
        have X4_19 := Lib.hid (X4_17.out.on hb)
        have N3_19 := Lib.hid (N3_17.out.on hb)
        have N4_19 := Lib.hid (N4_17.out.on hb)
        have GB_19 := Lib.hid (GB_17.out.trans (hb.mono GB_17.out.size))
        have IH_19 := Lib.hid (IH_17.out.on hb)
        have IV_19 := Lib.hid (IV_17.out.on hb)
        have XQ_19 := Lib.hid (XQ_17.out.on hb)
        have X7_19 := Lib.hid (X7_18.out.on hb)
        clear X3_17 X4_17 N3_17 N4_17 GB_17 IH_17 IV_17 XQ_17 X7_18
        clear C hb
        have K3 := X3_19.out.lt
        have K4 := X4_19.out.lt
        have N9_20 := Lib.hid (BrN.mk hown.br ⟨_, hown.near⟩)
        clear hown
        have NN := newB w3 (.cells #[.int .i64 b.me, .slice y1 y2 y3, .slice y4 y5 y6, .slice y7 y8 y9, .slice y10 y11 y12, .slice y13 y14 y15] 29)
        have X3_21 := Lib.hid (X3_19.out.on NN)
        have X4_21 := Lib.hid (X4_19.out.on NN)
        have N3_21 := Lib.hid (N3_19.out.on NN)
        have N4_21 := Lib.hid (N4_19.out.on NN)
        have GB_21 := Lib.hid (GB_19.out.trans (NN.mono GB_19.out.size))
        have IH_21 := Lib.hid (IH_19.out.on NN)
        have IV_21 := Lib.hid (IV_19.out.on NN)
        have XQ_21 := Lib.hid (XQ_19.out.on NN)
        have X7_21 := Lib.hid (X7_19.out.on NN)
        have N9_21 := Lib.hid (N9_20.out.on NN)
        clear X3_19 X4_19 N3_19 N4_19 GB_19 IH_19 IV_19 XQ_19 X7_19 N9_20
        clear NN
        have X9_22 := Lib.hid (box_new w3 #[.int .i64 b.me, .slice y1 y2 y3, .slice y4 y5 y6, .slice y7 y8 y9, .slice y10 y11 y12, .slice y13 y14 y15] 29)
        have xm0 := X3_21.out.cell 0
        have xm1 := X3_21.out.cell 1
        have xm2 := X3_21.out.cell 2
        have xm3 := X3_21.out.cell 3
        have xm4 := X3_21.out.cell 4
        have xm5 := X3_21.out.cell 5
        simp only [List.getElem?_toArray, List.getElem?_cons_zero, List.getElem?_cons_succ] at xm0 xm1 xm2 xm3 xm4 xm5
        go_upto_region 12 with fail
        clear xm0 xm1 xm2 xm3 xm4 xm5
        have S9 := more_one w3 (.cells #[.int .i64 b.me, .slice y1 y2 y3, .slice y4 y5 y6, .slice y7 y8 y9, .slice y10 y11 y12, .slice y13 y14 y15] 29)
        have NN := newB (w3.alloc (.cells #[.int .i64 b.me, .slice y1 y2 y3, .slice y4 y5 y6, .slice y7 y8 y9, .slice y10 y11 y12, .slice y13 y14 y15] 29)) (.cells #[.int .i64 b.me, .slice s1 s2 s3, .slice s4 s5 s6, .slice s7 s8 s9, .slice s10 s11 s12, .slice s13 s14 s15] 29)
        have X3_23 := Lib.hid (X3_21.out.on NN)
        have X4_23 := Lib.hid (X4_21.out.on NN)
        have N3_23 := Lib.hid (N3_21.out.on NN)
        have N4_23 := Lib.hid (N4_21.out.on NN)
        have GB_23 := Lib.hid (GB_21.out.trans (NN.mono GB_21.out.size))
        have IH_23 := Lib.hid (IH_21.out.on NN)
        have IV_23 := Lib.hid (IV_21.out.on NN)
        have XQ_23 := Lib.hid (XQ_21.out.on NN)
        have X7_23 := Lib.hid (X7_21.out.on NN)
        have N9_23 := Lib.hid (N9_21.out.on NN)
        have X9_23 := Lib.hid (X9_22.out.on NN)
        clear X3_21 X4_21 N3_21 N4_21 GB_21 IH_21 IV_21 XQ_21 X7_21 N9_21 X9_22
        clear NN
        have X10_24 := Lib.hid (box_new (w3.alloc (.cells #[.int .i64 b.me, .slice y1 y2 y3, .slice y4 y5 y6, .slice y7 y8 y9, .slice y10 y11 y12, .slice y13 y14 y15] 29)) #[.int .i64 b.me, .slice s1 s2 s3, .slice s4 s5 s6, .slice s7 s8 s9, .slice s10 s11 s12, .slice s13 s14 s15] 29)
        rw [← S9] at X10_24
        clear S9
        have NE_25 := Lib.hid (N3_23.out)
        have xq0 := XQ_23.out.cell 0
        have xq1 := XQ_23.out.cell 1
        have xq2 := XQ_23.out.cell 2
        have xq3 := XQ_23.out.cell 3
        have xq4 := XQ_23.out.cell 4
        have xq5 := XQ_23.out.cell 5
        simp only [List.getElem?_toArray, List.getElem?_cons_zero, List.getElem?_cons_succ] at xq0 xq1 xq2 xq3 xq4 xq5
        have xm0 := X3_23.out.cell 0
        have xm1 := X3_23.out.cell 1
        have xm2 := X3_23.out.cell 2
        have xm3 := X3_23.out.cell 3
        have xm4 := X3_23.out.cell 4
        have xm5 := X3_23.out.cell 5
        simp only [List.getElem?_toArray, List.getElem?_cons_zero, List.getElem?_cons_succ] at xm0 xm1 xm2 xm3 xm4 xm5
        have xc0 := X7_23.out.cell 0
        have xc1 := X7_23.out.cell 1
        simp only [List.getElem?_toArray, List.getElem?_cons_zero, List.getElem?_cons_succ] at xc0 xc1
        rcases hq : (bits BinOp.and IntKind.i64 z0 1 == (1 : Int)) with _ | _
        · go_wp2_with fail
          generalize ((w3.alloc (.cells #[.int .i64 b.me, .slice y1 y2 y3, .slice y4 y5 y6, .slice y7 y8 y9, .slice y10 y11 y12, .slice y13 y14 y15] 29)).alloc (.cells #[.int .i64 b.me, .slice s1 s2 s3, .slice s4 s5 s6, .slice s7 s8 s9, .slice s10 s11 s12, .slice s13 s14 s15] 29)) = w4 at *
          clear IH_23 IV_23
          have C := forget_any b (i1, i2) 1 (s1, s2, s3) (s4, s5, s6) (s7, s8, s9) (s10, s11, s12) (s13, s14, s15) w4 N3_23.out.br (PI_1.out.few (by omega)) PI_1.out.fewp
          have hp2 := play_forget PI_1.out (i1, i2) 1
          have me1 := forgetF_me b (i1, i2) 1
          obtain ⟨⟨nb, gt⟩, hlb⟩ : ∃ r : Br × Bool, forgetF b (i1, i2) 1 = r := ⟨_, rfl⟩
          rw [hlb] at C hp2 me1
          simp only at hp2 me1
          have ME1 := Lib.hid me1
          have HLB := Lib.hid hlb
          clear me1 hlb
          have PI2_26 := Lib.hid (hp2)
          clear hp2
          refine C.mono ?_
          rintro e5 w5 ⟨⟨⟨t1, t2, t3⟩, ⟨t4, t5, t6⟩, ⟨t7, t8, t9⟩, ⟨t10, t11, t12⟩, ⟨t13, t14, t15⟩, rfl, hbr, hno⟩, hb⟩
          clear xq0 xq1 xq2 xq3 xq4 xq5 xm0 xm1 xm2 xm3 xm4 xm5 xc0 xc1
          have hno := hno N3_23.out.no
          have X3_27 := Lib.hid (X3_23.out.on hb)
          have X4_27 := Lib.hid (X4_23.out.on hb)
          have N3_27 := Lib.hid (N3_23.out.on hb)
          have N4_27 := Lib.hid (N4_23.out.on hb)
          have GB_27 := Lib.hid (GB_23.out.trans (hb.mono GB_23.out.size))
          have XQ_27 := Lib.hid (XQ_23.out.on hb)
          have X7_27 := Lib.hid (X7_23.out.on hb)
          have N9_27 := Lib.hid (N9_23.out.on hb)
          have X9_27 := Lib.hid (X9_23.out.on hb)
          have X10_27 := Lib.hid (X10_24.out.on hb)
          have NE_27 := Lib.hid (NE_25.out.on hb)
          clear X3_23 X4_23 N3_23 N4_23 GB_23 XQ_23 X7_23 N9_23 X9_23 X10_24 NE_25
          clear C hb
          have N3_28 := Lib.hid (BrN.mk hbr hno)
          clear hbr hno
          have xm0 := X3_27.out.cell 0
          have xm1 := X3_27.out.cell 1
          have xm2 := X3_27.out.cell 2
          have xm3 := X3_27.out.cell 3
          have xm4 := X3_27.out.cell 4
          have xm5 := X3_27.out.cell 5
          simp only [List.getElem?_toArray, List.getElem?_cons_zero, List.getElem?_cons_succ] at xm0 xm1 xm2 xm3 xm4 xm5
          have xmf0 := X3_27.out.fr 0
          have xmf1 := X3_27.out.fr 1
          have xmf2 := X3_27.out.fr 2
          have xmf3 := X3_27.out.fr 3
          have xmf4 := X3_27.out.fr 4
          have xmf5 := X3_27.out.fr 5
          have zz := X3_27.out.lt
          go_upto_region 18 with fail
          clear zz
          clear xm0 xm1 xm2 xm3 xm4 xm5 xmf0 xmf1 xmf2 xmf3 xmf4 xmf5
          have BU := but_setB w5 b3 (.int .i64 nb.me) (.slice t1 t2 t3) (.slice t4 t5 t6) (.slice t7 t8 t9) (.slice t10 t11 t12) (.slice t13 t14 t15)
          have X3_29 := Lib.hid (setB_box X3_27.out (.int .i64 nb.me) (.slice t1 t2 t3) (.slice t4 t5 t6) (.slice t7 t8 t9) (.slice t10 t11 t12) (.slice t13 t14 t15))
          have X4_29 := Lib.hid (BU.box X4_27.out (N34.symm))
          have N3_29 := Lib.hid (N3_28.out.keep (s1 := (s1, s2, s3)) (s2 := (s4, s5, s6)) (s3 := (s7, s8, s9)) (s4 := (s10, s11, s12)) (s5 := (s13, s14, s15)) X3_27.out BU)
          have N4_29 := Lib.hid (N4_27.out.keep (s1 := (s1, s2, s3)) (s2 := (s4, s5, s6)) (s3 := (s7, s8, s9)) (s4 := (s10, s11, s12)) (s5 := (s13, s14, s15)) X3_27.out BU)
          have GB_29 := Lib.hid (setB_below GB_27.out L3 (.int .i64 nb.me) (.slice t1 t2 t3) (.slice t4 t5 t6) (.slice t7 t8 t9) (.slice t10 t11 t12) (.slice t13 t14 t15))
          have XQ_29 := Lib.hid (BU.box XQ_27.out (box_ne XQ_27.out X3_27.out rfl))
          have X7_29 := Lib.hid (BU.box X7_27.out (box_ne X7_27.out X3_27.out rfl))
          have N9_29 := Lib.hid (N9_27.out.keep (s1 := (s1, s2, s3)) (s2 := (s4, s5, s6)) (s3 := (s7, s8, s9)) (s4 := (s10, s11, s12)) (s5 := (s13, s14, s15)) X3_27.out BU)
          have X9_29 := Lib.hid (BU.box X9_27.out (by omega))
          have X10_29 := Lib.hid (BU.box X10_27.out (by omega))
          have NE_29 := Lib.hid (NE_27.out.keep (s1 := (s1, s2, s3)) (s2 := (s4, s5, s6)) (s3 := (s7, s8, s9)) (s4 := (s10, s11, s12)) (s5 := (s13, s14, s15)) X3_27.out BU)
          clear BU
          unfold setB at *
          generalize (((((w5.setCell ⟨b3, 0, none⟩ (.int .i64 nb.me)).setCell ⟨b3, 1, none⟩ (.slice t1 t2 t3)).setCell ⟨b3, 2, none⟩ (.slice t4 t5 t6)).setCell ⟨b3, 3, none⟩ (.slice t7 t8 t9)).setCell ⟨b3, 4, none⟩ (.slice t10 t11 t12)).setCell ⟨b3, 5, none⟩ (.slice t13 t14 t15) = w6 at *
          have xn0 := X4_29.out.cell 0
          have xn1 := X4_29.out.cell 1
          have xn2 := X4_29.out.cell 2
          have xn3 := X4_29.out.cell 3
          have xn4 := X4_29.out.cell 4
          have xn5 := X4_29.out.cell 5
          simp only [List.getElem?_toArray, List.getElem?_cons_zero, List.getElem?_cons_succ] at xn0 xn1 xn2 xn3 xn4 xn5
          have xd0 := X7_29.out.cell 0
          have xd1 := X7_29.out.cell 1
          simp only [List.getElem?_toArray, List.getElem?_cons_zero, List.getElem?_cons_succ] at xd0 xd1
          go_wp2_with fail
          have D := rforget_any b (o1, o2, o3) (o4, o5, o6) (o7, o8, o9) (o10, o11, o12) (o13, o14, o15) (i1, i2) 1 w6 N4_29.out.br (PI_1.out.few (by omega)).adv (PI_1.out.few (by omega)).ent
          rw [← forgetF_eq PI_1.out.ok.adv] at D
          rw [HLB.out] at D
          refine D.mono ?_
          rintro e7 w7 ⟨⟨⟨x4, x5, x6⟩, ⟨x7, x8, x9⟩, rfl, hbr⟩, hb⟩
          clear xn0 xn1 xn2 xn3 xn4 xn5 xd0 xd1
          have X3_30 := Lib.hid (X3_29.out.on hb)
          have X4_30 := Lib.hid (X4_29.out.on hb)
          have N3_30 := Lib.hid (N3_29.out.on hb)
          have N4_30 := Lib.hid (N4_29.out.on hb)
          have GB_30 := Lib.hid (GB_29.out.trans (hb.mono GB_29.out.size))
          have XQ_30 := Lib.hid (XQ_29.out.on hb)
          have X7_30 := Lib.hid (X7_29.out.on hb)
          have N9_30 := Lib.hid (N9_29.out.on hb)
          have X9_30 := Lib.hid (X9_29.out.on hb)
          have X10_30 := Lib.hid (X10_29.out.on hb)
          have NE_30 := Lib.hid (NE_29.out.on hb)
          clear X3_29 X4_29 N3_29 N4_29 GB_29 XQ_29 X7_29 N9_29 X9_29 X10_29 NE_29
          have hno : NearOwn w7 (o1, o2, o3) nb.near := by rw [ME1.out.2]; exact N4_30.out.no
          clear D hb
          have N4_31 := Lib.hid (BrN.mk hbr hno)
          clear hbr hno
          have xm0 := X4_30.out.cell 0
          have xm1 := X4_30.out.cell 1
          have xm2 := X4_30.out.cell 2
          have xm3 := X4_30.out.cell 3
          have xm4 := X4_30.out.cell 4
          have xm5 := X4_30.out.cell 5
          simp only [List.getElem?_toArray, List.getElem?_cons_zero, List.getElem?_cons_succ] at xm0 xm1 xm2 xm3 xm4 xm5
          have xmf0 := X4_30.out.fr 0
          have xmf1 := X4_30.out.fr 1
          have xmf2 := X4_30.out.fr 2
          have xmf3 := X4_30.out.fr 3
          have xmf4 := X4_30.out.fr 4
          have xmf5 := X4_30.out.fr 5
          have zz := X4_30.out.lt
          go_upto_region 19 with fail
          clear zz
          clear xm0 xm1 xm2 xm3 xm4 xm5 xmf0 xmf1 xmf2 xmf3 xmf4 xmf5
          have BU := but_setB w7 b4 (.int .i64 b.me) (.slice o1 o2 o3) (.slice x4 x5 x6) (.slice o7 o8 o9) (.slice x7 x8 x9) (.slice o13 o14 o15)
          have X3_32 := Lib.hid (BU.box X3_30.out (N34))
          have X4_32 := Lib.hid (setB_box X4_30.out (.int .i64 b.me) (.slice o1 o2 o3) (.slice x4 x5 x6) (.slice o7 o8 o9) (.slice x7 x8 x9) (.slice o13 o14 o15))
          have N3_32 := Lib.hid (N3_30.out.keep (s1 := (o1, o2, o3)) (s2 := (o4, o5, o6)) (s3 := (o7, o8, o9)) (s4 := (o10, o11, o12)) (s5 := (o13, o14, o15)) X4_30.out BU)
          have N4_32 := Lib.hid (N4_31.out.keep (s1 := (o1, o2, o3)) (s2 := (o4, o5, o6)) (s3 := (o7, o8, o9)) (s4 := (o10, o11, o12)) (s5 := (o13, o14, o15)) X4_30.out BU)
          have GB_32 := Lib.hid (setB_below GB_30.out L4 (.int .i64 b.me) (.slice o1 o2 o3) (.slice x4 x5 x6) (.slice o7 o8 o9) (.slice x7 x8 x9) (.slice o13 o14 o15))
          have XQ_32 := Lib.hid (BU.box XQ_30.out (box_ne XQ_30.out X4_30.out rfl))
          have X7_32 := Lib.hid (BU.box X7_30.out (box_ne X7_30.out X4_30.out rfl))
          have N9_32 := Lib.hid (N9_30.out.keep (s1 := (o1, o2, o3)) (s2 := (o4, o5, o6)) (s3 := (o7, o8, o9)) (s4 := (o10, o11, o12)) (s5 := (o13, o14, o15)) X4_30.out BU)
          have X9_32 := Lib.hid (BU.box X9_30.out (by omega))
          have X10_32 := Lib.hid (BU.box X10_30.out (by omega))
          have NE_32 := Lib.hid (NE_30.out.keep (s1 := (o1, o2, o3)) (s2 := (o4, o5, o6)) (s3 := (o7, o8, o9)) (s4 := (o10, o11, o12)) (s5 := (o13, o14, o15)) X4_30.out BU)
          clear BU
          unfold setB at *
          generalize (((((w7.setCell ⟨b4, 0, none⟩ (.int .i64 b.me)).setCell ⟨b4, 1, none⟩ (.slice o1 o2 o3)).setCell ⟨b4, 2, none⟩ (.slice x4 x5 x6)).setCell ⟨b4, 3, none⟩ (.slice o7 o8 o9)).setCell ⟨b4, 4, none⟩ (.slice x7 x8 x9)).setCell ⟨b4, 5, none⟩ (.slice o13 o14 o15) = w8 at *
          have hx4 : Box w8 b4 #[.int .i64 nb.me, .slice o1 o2 o3, .slice x4 x5 x6, .slice o7 o8 o9, .slice x7 x8 x9, .slice o13 o14 o15] 29 := by rw [ME1.out.1]; exact X4_32.out
          have X4_33 := Lib.hid (hx4)
          clear hx4
          have xm0 := X3_32.out.cell 0
          have xm1 := X3_32.out.cell 1
          have xm2 := X3_32.out.cell 2
          have xm3 := X3_32.out.cell 3
          have xm4 := X3_32.out.cell 4
          have xm5 := X3_32.out.cell 5
          simp only [List.getElem?_toArray, List.getElem?_cons_zero, List.getElem?_cons_succ] at xm0 xm1 xm2 xm3 xm4 xm5
          have xc0 := X7_32.out.cell 0
          have xc1 := X7_32.out.cell 1
          simp only [List.getElem?_toArray, List.getElem?_cons_zero, List.getElem?_cons_succ] at xc0 xc1
          have xn0 := X4_33.out.cell 0
          have xn1 := X4_33.out.cell 1
          have xn2 := X4_33.out.cell 2
          have xn3 := X4_33.out.cell 3
          have xn4 := X4_33.out.cell 4
          have xn5 := X4_33.out.cell 5
          simp only [List.getElem?_toArray, List.getElem?_cons_zero, List.getElem?_cons_succ] at xn0 xn1 xn2 xn3 xn4 xn5
          obtain ⟨la, hd1, hd2⟩ := N3_32.out.br.adv
          obtain ⟨lb, he1, he2⟩ := N4_32.out.br.adv
          have FD := find_any nb.me (.slice t1 t2 t3) (.slice t7 t8 t9) (.slice t10 t11 t12) (.slice t13 t14 t15) (t4, t5, t6) la nb.adv (i1, i2) _ hd1 hd2 PI2_26.out.fp
          have FB := Lib.hid (find_both he2 (i1, i2))
          have HE := Lib.hid he1
          have HE2 := Lib.hid he2
          clear he1 he2
          go_wp2_with fail
          rcases FB.out with ⟨hf, hfi⟩ | ⟨kn, ya, a, hf, hfi, hl1, hl2, hai, haid⟩
          · rw [hf] at FD
            refine FD.mono ?_
            rintro e9 w9 ⟨rfl, hb⟩
            clear xm0 xm1 xm2 xm3 xm4 xm5 xc0 xc1 xn0 xn1 xn2 xn3 xn4 xn5
            have X3_34 := Lib.hid (X3_32.out.on hb)
            have X4_34 := Lib.hid (X4_33.out.on hb)
            have N3_34 := Lib.hid (N3_32.out.on hb)
            have N4_34 := Lib.hid (N4_32.out.on hb)
            have GB_34 := Lib.hid (GB_32.out.trans (hb.mono GB_32.out.size))
            have XQ_34 := Lib.hid (XQ_32.out.on hb)
            have X7_34 := Lib.hid (X7_32.out.on hb)
            have N9_34 := Lib.hid (N9_32.out.on hb)
            have X9_34 := Lib.hid (X9_32.out.on hb)
            have X10_34 := Lib.hid (X10_32.out.on hb)
            have NE_34 := Lib.hid (NE_32.out.on hb)
            have HE_34 := Lib.hid (HE.out.on hb)
            clear X3_32 X4_33 N3_32 N4_32 GB_32 XQ_32 X7_32 N9_32 X9_32 X10_32 NE_32 HE
            clear FD hd1 hd2
            have NN := newB w9 (.cells #[.int .i64 0, .int .i64 0, .slice none 0 0, .int .i64 0] 42)
            have X3_35 := Lib.hid (X3_34.out.on NN)
            have X4_35 := Lib.hid (X4_34.out.on NN)
            have N3_35 := Lib.hid (N3_34.out.on NN)
            have N4_35 := Lib.hid (N4_34.out.on NN)
            have GB_35 := Lib.hid (GB_34.out.trans (NN.mono GB_34.out.size))
            have XQ_35 := Lib.hid (XQ_34.out.on NN)
            have X7_35 := Lib.hid (X7_34.out.on NN)
            have N9_35 := Lib.hid (N9_34.out.on NN)
            have X9_35 := Lib.hid (X9_34.out.on NN)
            have X10_35 := Lib.hid (X10_34.out.on NN)
            have NE_35 := Lib.hid (NE_34.out.on NN)
            have HE_35 := Lib.hid (HE_34.out.on NN)
            clear X3_34 X4_34 N3_34 N4_34 GB_34 XQ_34 X7_34 N9_34 X9_34 X10_34 NE_34 HE_34
            clear NN
            have X14_36 := Lib.hid (box_new w9 #[.int .i64 0, .int .i64 0, .slice none 0 0, .int .i64 0] 42)
            have xn0 := X4_35.out.cell 0
            have xn1 := X4_35.out.cell 1
            have xn2 := X4_35.out.cell 2
            have xn3 := X4_35.out.cell 3
            have xn4 := X4_35.out.cell 4
            have xn5 := X4_35.out.cell 5
            simp only [List.getElem?_toArray, List.getElem?_cons_zero, List.getElem?_cons_succ] at xn0 xn1 xn2 xn3 xn4 xn5
            have xc0 := X7_35.out.cell 0
            have xc1 := X7_35.out.cell 1
            simp only [List.getElem?_toArray, List.getElem?_cons_zero, List.getElem?_cons_succ] at xc0 xc1
            go_wp2_with fail
            generalize w9.alloc (.cells #[.int .i64 0, .int .i64 0, .slice none 0 0, .int .i64 0] 42) = w10 at *
            have FI := rfind_any nb.me (.slice o1 o2 o3) (.slice x7 x8 x9) (.slice o7 o8 o9) (.slice o13 o14 o15) (x4, x5, x6) lb (i1, i2) w10 HE_35.out
            rw [hfi] at FI
            refine FI.mono ?_
            rintro e11 w11 ⟨rfl, hb⟩
            clear xn0 xn1 xn2 xn3 xn4 xn5 xc0 xc1
            have X3_37 := Lib.hid (X3_35.out.on hb)
            have X4_37 := Lib.hid (X4_35.out.on hb)
            have N3_37 := Lib.hid (N3_35.out.on hb)
            have N4_37 := Lib.hid (N4_35.out.on hb)
            have GB_37 := Lib.hid (GB_35.out.trans (hb.mono GB_35.out.size))
            have XQ_37 := Lib.hid (XQ_35.out.on hb)
            have X7_37 := Lib.hid (X7_35.out.on hb)
            have N9_37 := Lib.hid (N9_35.out.on hb)
            have X9_37 := Lib.hid (X9_35.out.on hb)
            have X10_37 := Lib.hid (X10_35.out.on hb)
            have NE_37 := Lib.hid (NE_35.out.on hb)
            have HE_37 := Lib.hid (HE_35.out.on hb)
            have X14_37 := Lib.hid (X14_36.out.on hb)
            clear X3_35 X4_35 N3_35 N4_35 GB_35 XQ_35 X7_35 N9_35 X9_35 X10_35 NE_35 HE_35 X14_36
            clear FI hb
            go_upto_region 21 with fail
            refine play21n _ w11 b3 b4 w3.heap.size (w3.heap.size + 1) gt nb b t1 t2 t3 t4 t5 t6 t7 t8 t9 t10 t11 t12 t13 t14 t15 o1 o2 o3 x4 x5 x6 o7 o8 o9 x7 x8 x9 o13 o14 o15 y1 y2 y3 y4 y5 y6 y7 y8 y9 y10 y11 y12 y13 y14 y15 s1 s2 s3 s4 s5 s6 s7 s8 s9 s10 s11 s12 s13 s14 s15 _ _ _ _ _ _ _ _ _ _ _ _ _ _ _ _ _ _ _ _ _ _ _ _ _ _ _ _ _ _ _ _ _ _ _ _ _ _ _ _ _ _ _ _ _ _ _ _ _ _ _ _ _ _ _ _ _ _ _ _ _ _ _ _ _ _ _ _ _ _ _ _ _ _ _ _ _ _ _ _ _ _ _ _ _ _ _ _ _ _ _ _ _ _ _ _ _ _ _ _ _ _ _ _ _ _ _ _ _ _ _ _ _ _ _ _ _ _ _ _ _ _ _ _ _ _ _ _ _ _ _ _ _ _ _ _ _ _ _ _ X3_37.out X4_37.out X9_37.out X10_37.out N3_37.out N4_37.out N9_37.out NE_37.out (PI2_26.out.few (by omega)) PI2_26.out.fewp PI2_26.out.tame ((okBr_iff nb).2 PI2_26.out.ok) (PI_1.out.few (by omega)) PI_1.out.fewp ?_
            intro x21 v95 v96 v97 v98 v99 v100 v101 v102 v103 v104 v105 v106 v107 v108 v109 v110 v111 v112 v113 v114 v115 v116 v117 v118 v119 v120 v121 v122 v123 v124 v125 v126 v127 v128 v129 v130 v131 v132 v133 v134 v135 v136 v137 v138 v139 v140 v141 v142 v143 v144 v145 hbel
            have X3_38 := Lib.hid (X3_37.out.on hbel)
            have X4_38 := Lib.hid (X4_37.out.on hbel)
            have N3_38 := Lib.hid (N3_37.out.on hbel)
            have N4_38 := Lib.hid (N4_37.out.on hbel)
            have GB_38 := Lib.hid (GB_37.out.trans (hbel.mono GB_37.out.size))
            have XQ_38 := Lib.hid (XQ_37.out.on hbel)
            have X7_38 := Lib.hid (X7_37.out.on hbel)
            have N9_38 := Lib.hid (N9_37.out.on hbel)
            have X9_38 := Lib.hid (X9_37.out.on hbel)
            have X10_38 := Lib.hid (X10_37.out.on hbel)
            have NE_38 := Lib.hid (NE_37.out.on hbel)
            have HE_38 := Lib.hid (HE_37.out.on hbel)
            have X14_38 := Lib.hid (X14_37.out.on hbel)
            clear X3_37 X4_37 N3_37 N4_37 GB_37 XQ_37 X7_37 N9_37 X9_37 X10_37 NE_37 HE_37 X14_37
            go_wp2_with fail
            go_roundw
            case rel => exact ⟨k + 1, nb, t1, t2, t3, t4, t5, t6, t7, t8, t9, t10, t11, t12, t13, t14, t15, o1, o2, o3, x4, x5, x6, o7, o8, o9, x7, x8, x9, o13, o14, o15, by omega, by omega, by go_num, PI2_26.out, X3_38.out, X4_38.out, N3_38.out, N4_38.out, GB_38.out⟩
            case measure => simp [intOf]; omega
          · rw [hf] at FD
            refine FD.mono ?_
            rintro e9 w9 ⟨⟨⟨q1, q2, ⟨q3, q4, q5⟩, q6⟩, rfl, hci⟩, hb⟩
            clear xm0 xm1 xm2 xm3 xm4 xm5 xc0 xc1 xn0 xn1 xn2 xn3 xn4 xn5
            have X3_34 := Lib.hid (X3_32.out.on hb)
            have X4_34 := Lib.hid (X4_33.out.on hb)
            have N3_34 := Lib.hid (N3_32.out.on hb)
            have N4_34 := Lib.hid (N4_32.out.on hb)
            have GB_34 := Lib.hid (GB_32.out.trans (hb.mono GB_32.out.size))
            have XQ_34 := Lib.hid (XQ_32.out.on hb)
            have X7_34 := Lib.hid (X7_32.out.on hb)
            have N9_34 := Lib.hid (N9_32.out.on hb)
            have X9_34 := Lib.hid (X9_32.out.on hb)
            have X10_34 := Lib.hid (X10_32.out.on hb)
            have NE_34 := Lib.hid (NE_32.out.on hb)
            have HE_34 := Lib.hid (HE.out.on hb)
            clear X3_32 X4_33 N3_32 N4_32 GB_32 XQ_32 X7_32 N9_32 X9_32 X10_32 NE_32 HE
            clear FD hd1 hd2
            obtain ⟨ha1, ha2, _⟩ := hci
            obtain rfl : q6 = a.par := ha2
            obtain ⟨rfl, rfl⟩ : q1 = i1 ∧ q2 = i2 := by rw [haid] at ha1; simpa using ha1
            have NN := newB w9 (.cells #[.int .i64 q1, .int .i64 q2, .slice q3 q4 q5, .int .i64 a.par] 42)
            have X3_35 := Lib.hid (X3_34.out.on NN)
            have X4_35 := Lib.hid (X4_34.out.on NN)
            have N3_35 := Lib.hid (N3_34.out.on NN)
            have N4_35 := Lib.hid (N4_34.out.on NN)
            have GB_35 := Lib.hid (GB_34.out.trans (NN.mono GB_34.out.size))
            have XQ_35 := Lib.hid (XQ_34.out.on NN)
            have X7_35 := Lib.hid (X7_34.out.on NN)
            have N9_35 := Lib.hid (N9_34.out.on NN)
            have X9_35 := Lib.hid (X9_34.out.on NN)
            have X10_35 := Lib.hid (X10_34.out.on NN)
            have NE_35 := Lib.hid (NE_34.out.on NN)
            have HE_35 := Lib.hid (HE_34.out.on NN)
            clear X3_34 X4_34 N3_34 N4_34 GB_34 XQ_34 X7_34 N9_34 X9_34 X10_34 NE_34 HE_34
            clear NN
            have X14_36 := Lib.hid (box_new w9 #[.int .i64 q1, .int .i64 q2, .slice q3 q4 q5, .int .i64 a.par] 42)
            have xn0 := X4_35.out.cell 0
            have xn1 := X4_35.out.cell 1
            have xn2 := X4_35.out.cell 2
            have xn3 := X4_35.out.cell 3
            have xn4 := X4_35.out.cell 4
            have xn5 := X4_35.out.cell 5
            simp only [List.getElem?_toArray, List.getElem?_cons_zero, List.getElem?_cons_succ] at xn0 xn1 xn2 xn3 xn4 xn5
            have xc0 := X7_35.out.cell 0
            have xc1 := X7_35.out.cell 1
            simp only [List.getElem?_toArray, List.getElem?_cons_zero, List.getElem?_cons_succ] at xc0 xc1
            go_wp2_with fail
            generalize w9.alloc (.cells #[.int .i64 q1, .int .i64 q2, .slice q3 q4 q5, .int .i64 a.par] 42) = w10 at *
            have FI := rfind_any nb.me (.slice o1 o2 o3) (.slice x7 x8 x9) (.slice o7 o8 o9) (.slice o13 o14 o15) (x4, x5, x6) lb (q1, q2) w10 HE_35.out
            rw [hfi] at FI
            refine FI.mono ?_
            rintro e11 w11 ⟨rfl, hb⟩
            clear xn0 xn1 xn2 xn3 xn4 xn5 xc0 xc1
            have X3_37 := Lib.hid (X3_35.out.on hb)
            have X4_37 := Lib.hid (X4_35.out.on hb)
            have N3_37 := Lib.hid (N3_35.out.on hb)
            have N4_37 := Lib.hid (N4_35.out.on hb)
            have GB_37 := Lib.hid (GB_35.out.trans (hb.mono GB_35.out.size))
            have XQ_37 := Lib.hid (XQ_35.out.on hb)
            have X7_37 := Lib.hid (X7_35.out.on hb)
            have N9_37 := Lib.hid (N9_35.out.on hb)
            have X9_37 := Lib.hid (X9_35.out.on hb)
            have X10_37 := Lib.hid (X10_35.out.on hb)
            have NE_37 := Lib.hid (NE_35.out.on hb)
            have HE_37 := Lib.hid (HE_35.out.on hb)
            have X14_37 := Lib.hid (X14_36.out.on hb)
            clear X3_35 X4_35 N3_35 N4_35 GB_35 XQ_35 X7_35 N9_35 X9_35 X10_35 NE_35 HE_35 X14_36
            clear FI hb
            go_upto_region 21 with fail
            obtain ⟨_, _, hve⟩ := HE_37.out.len
            have hlen : lb.length = x5 := by simpa using (congrArg (fun v => match v with | Value.slice _ n _ => n | _ => 0) hve).symm
            obtain ⟨pp, ix, px⟩ := elD HE_37.out rfl hlen hl1
            have px3 : ∀ x, Below w11.heap.size w11 x → x.cell? ⟨pp.block, pp.off + 3, none⟩ = some (.int .i64 a.par) := fun x hx => by have h := (px x hx).2.2.2; rwa [hai.2.1] at h
            refine play21s _ w11 b3 b4 b7 w3.heap.size (w3.heap.size + 1) w9.heap.size gt nb b kn q1 q2 a.par pp q3 q4 q5 t1 t2 t3 t4 t5 t6 t7 t8 t9 t10 t11 t12 t13 t14 t15 o1 o2 o3 x4 x5 x6 o7 o8 o9 x7 x8 x9 o13 o14 o15 y1 y2 y3 y4 y5 y6 y7 y8 y9 y10 y11 y12 y13 y14 y15 s1 s2 s3 s4 s5 s6 s7 s8 s9 s10 s11 s12 s13 s14 s15 _ _ _ _ _ _ _ _ _ _ _ _ _ _ _ _ _ _ _ _ _ _ _ _ _ _ _ _ _ _ _ _ _ _ _ _ _ _ _ _ _ _ _ _ _ _ _ _ _ _ _ _ _ _ _ _ _ _ _ _ _ _ _ _ _ _ _ _ _ _ _ _ _ _ _ _ _ _ _ _ _ _ _ _ _ _ _ _ _ _ _ _ _ _ _ _ _ _ _ _ _ _ _ _ _ _ _ _ _ _ _ _ _ _ _ _ _ _ _ _ _ _ _ _ _ _ _ _ _ _ _ _ _ _ _ _ _ _ X3_37.out X4_37.out X9_37.out X10_37.out N3_37.out N4_37.out N9_37.out NE_37.out (PI2_26.out.few (by omega)) PI2_26.out.fewp PI2_26.out.tame ((okBr_iff nb).2 PI2_26.out.ok) (PI_1.out.few (by omega)) PI_1.out.fewp X7_37.out X14_37.out ix px3 ?_
            intro x21 v95 v96 v97 v98 v99 v100 v101 v102 v103 v104 v105 v106 v107 v108 v109 v110 v111 v112 v113 v114 v115 v116 v117 v118 v119 v120 v121 v122 v123 v124 v125 v126 v127 v128 v129 v130 v131 v132 v133 v134 v135 v136 v137 v138 v139 v140 v141 v142 v143 v144 v145 hbel
            have X3_38 := Lib.hid (X3_37.out.on hbel)
            have X4_38 := Lib.hid (X4_37.out.on hbel)
            have N3_38 := Lib.hid (N3_37.out.on hbel)
            have N4_38 := Lib.hid (N4_37.out.on hbel)
            have GB_38 := Lib.hid (GB_37.out.trans (hbel.mono GB_37.out.size))
            have XQ_38 := Lib.hid (XQ_37.out.on hbel)
            have X7_38 := Lib.hid (X7_37.out.on hbel)
            have N9_38 := Lib.hid (N9_37.out.on hbel)
            have X9_38 := Lib.hid (X9_37.out.on hbel)
            have X10_38 := Lib.hid (X10_37.out.on hbel)
            have NE_38 := Lib.hid (NE_37.out.on hbel)
            have HE_38 := Lib.hid (HE_37.out.on hbel)
            have X14_38 := Lib.hid (X14_37.out.on hbel)
            clear X3_37 X4_37 N3_37 N4_37 GB_37 XQ_37 X7_37 N9_37 X9_37 X10_37 NE_37 HE_37 X14_37
            go_wp2_with fail
            go_roundw
            case rel => exact ⟨k + 1, nb, t1, t2, t3, t4, t5, t6, t7, t8, t9, t10, t11, t12, t13, t14, t15, o1, o2, o3, x4, x5, x6, o7, o8, o9, x7, x8, x9, o13, o14, o15, by omega, by omega, by go_num, PI2_26.out, X3_38.out, X4_38.out, N3_38.out, N4_38.out, GB_38.out⟩
            case measure => simp [intOf]; omega
        · go_upto_region 14 with fail
          generalize ((w3.alloc (.cells #[.int .i64 b.me, .slice y1 y2 y3, .slice y4 y5 y6, .slice y7 y8 y9, .slice y10 y11 y12, .slice y13 y14 y15] 29)).alloc (.cells #[.int .i64 b.me, .slice s1 s2 s3, .slice s4 s5 s6, .slice s7 s8 s9, .slice s10 s11 s12, .slice s13 s14 s15] 29)) = w4 at *
          clear xq0 xq1 xq2 xq3 xq4 xq5 xm0 xm1 xm2 xm3 xm4 xm5 xc0 xc1
          clear D0_7 D1_8 D2_9 D3_10
          refine play14 _ w4 wr.heap.size b7 z0 z1 z2 z3 i1 i2 1 h1 h2 h3 g1 g2 g3 has vals _ _ _ _ _ _ _ _ _ _ _ _ _ _ _ _ _ _ _ _ _ _ _ _ _ _ _ _ _ _ _ _ _ _ _ _ _ _ _ _ _ _ _ _ _ _ _ _ _ _ _ _ _ _ _ _ _ _ _ _ _ _ _ _ _ _ _ _ _ _ _ _ _ _ _ _ _ _ _ _ _ _ _ _ _ _ _ _ _ _ _ _ _ _ _ _ _ _ _ _ _ _ _ _ _ _ _ _ _ _ _ _ _ _ _ _ _ _ _ _ _ _ _ _ _ _ _ _ _ _ _ _ _ _ _ _ _ _ _ _ _ _ _ _ _ XQ_23.out X7_23.out IH_23.out IV_23.out LH_11.out LV_12.out ?_
          intro x13 b13 v54 v55 v56 v57 v58 v59 r1 r2 r3 hb13 hbox hoc hbel
          have X3_26 := Lib.hid (X3_23.out.on hbel)
          have X4_26 := Lib.hid (X4_23.out.on hbel)
          have N3_26 := Lib.hid (N3_23.out.on hbel)
          have N4_26 := Lib.hid (N4_23.out.on hbel)
          have GB_26 := Lib.hid (GB_23.out.trans (hbel.mono GB_23.out.size))
          have IH_26 := Lib.hid (IH_23.out.on hbel)
          have IV_26 := Lib.hid (IV_23.out.on hbel)
          have XQ_26 := Lib.hid (XQ_23.out.on hbel)
          have X7_26 := Lib.hid (X7_23.out.on hbel)
          have N9_26 := Lib.hid (N9_23.out.on hbel)
          have X9_26 := Lib.hid (X9_23.out.on hbel)
          have X10_26 := Lib.hid (X10_24.out.on hbel)
          have NE_26 := Lib.hid (NE_25.out.on hbel)
          clear X3_23 X4_23 N3_23 N4_23 GB_23 IH_23 IV_23 XQ_23 X7_23 N9_23 X9_23 X10_24 NE_25
          clear IH_26 IV_26
          have X13_27 := Lib.hid (hbox)
          have OC_28 := Lib.hid (hoc)
          clear hbel hbox hoc
          have xm0 := X3_26.out.cell 0
          have xm1 := X3_26.out.cell 1
          have xm2 := X3_26.out.cell 2
          have xm3 := X3_26.out.cell 3
          have xm4 := X3_26.out.cell 4
          have xm5 := X3_26.out.cell 5
          simp only [List.getElem?_toArray, List.getElem?_cons_zero, List.getElem?_cons_succ] at xm0 xm1 xm2 xm3 xm4 xm5
          have xd0 := X13_27.out.cell 0
          have xd1 := X13_27.out.cell 1
          have xd2 := X13_27.out.cell 2
          have xd3 := X13_27.out.cell 3
          simp only [List.getElem?_toArray, List.getElem?_cons_zero, List.getElem?_cons_succ] at xd0 xd1 xd2 xd3
          go_wp2_with fail
          have C := learn_any b ⟨(i1, i2), ((prd has vals 7).map r5), 1⟩ (s1, s2, s3) (s4, s5, s6) (s7, s8, s9) (s10, s11, s12) (s13, s14, s15) (i1, i2, (r1, r2, r3), 1) x13 N3_26.out.br ⟨rfl, rfl, Row.of_own OC_28.out⟩ (PI_1.out.few (by omega)) PI_1.out.fewp (Nat.le_trans (prd_len5 has vals) (by decide)) PI_1.out.ok.seen PI_1.out.ok.adv
          have hp2 := play_learn PI_1.out (i1, i2) ((prd has vals 7).map r5) 1 (by decide) (prd_right5 has vals) (Nat.le_trans (prd_len5 has vals) (by decide))
          have me1 := learn_me b ⟨(i1, i2), ((prd has vals 7).map r5), 1⟩
          obtain ⟨⟨nb, gt⟩, hlb⟩ : ∃ r : Br × Bool, learnB b ⟨(i1, i2), ((prd has vals 7).map r5), 1⟩ = r := ⟨_, rfl⟩
          rw [hlb] at C hp2 me1
          simp only at hp2 me1
          have ME1 := Lib.hid me1
          have HLB := Lib.hid hlb
          clear me1 hlb
          have PI2_29 := Lib.hid (hp2)
          clear hp2
          refine C.mono ?_
          rintro e5 w5 ⟨⟨⟨t1, t2, t3⟩, ⟨t4, t5, t6⟩, ⟨t7, t8, t9⟩, ⟨t10, t11, t12⟩, ⟨t13, t14, t15⟩, rfl, hbr, hno⟩, hb⟩
          clear xm0 xm1 xm2 xm3 xm4 xm5 xd0 xd1 xd2 xd3
          have hno := hno N3_26.out.no
          have X3_30 := Lib.hid (X3_26.out.on hb)
          have X4_30 := Lib.hid (X4_26.out.on hb)
          have N3_30 := Lib.hid (N3_26.out.on hb)
          have N4_30 := Lib.hid (N4_26.out.on hb)
          have GB_30 := Lib.hid (GB_26.out.trans (hb.mono GB_26.out.size))
          have XQ_30 := Lib.hid (XQ_26.out.on hb)
          have X7_30 := Lib.hid (X7_26.out.on hb)
          have N9_30 := Lib.hid (N9_26.out.on hb)
          have X9_30 := Lib.hid (X9_26.out.on hb)
          have X10_30 := Lib.hid (X10_26.out.on hb)
          have NE_30 := Lib.hid (NE_26.out.on hb)
          have X13_30 := Lib.hid (X13_27.out.on hb)
          have OC_30 := Lib.hid (Bk.own_on OC_28.out hb)
          clear X3_26 X4_26 N3_26 N4_26 GB_26 XQ_26 X7_26 N9_26 X9_26 X10_26 NE_26 X13_27 OC_28
          clear C hb
          have N3_31 := Lib.hid (BrN.mk hbr hno)
          clear hbr hno
          have xm0 := X3_30.out.cell 0
          have xm1 := X3_30.out.cell 1
          have xm2 := X3_30.out.cell 2
          have xm3 := X3_30.out.cell 3
          have xm4 := X3_30.out.cell 4
          have xm5 := X3_30.out.cell 5
          simp only [List.getElem?_toArray, List.getElem?_cons_zero, List.getElem?_cons_succ] at xm0 xm1 xm2 xm3 xm4 xm5
          have xmf0 := X3_30.out.fr 0
          have xmf1 := X3_30.out.fr 1
          have xmf2 := X3_30.out.fr 2
          have xmf3 := X3_30.out.fr 3
          have xmf4 := X3_30.out.fr 4
          have xmf5 := X3_30.out.fr 5
          have zz := X3_30.out.lt
          go_upto_region 16 with fail
          clear zz
          clear xm0 xm1 xm2 xm3 xm4 xm5 xmf0 xmf1 xmf2 xmf3 xmf4 xmf5
          have BU := but_setB w5 b3 (.int .i64 nb.me) (.slice t1 t2 t3) (.slice t4 t5 t6) (.slice t7 t8 t9) (.slice t10 t11 t12) (.slice t13 t14 t15)
          have X3_32 := Lib.hid (setB_box X3_30.out (.int .i64 nb.me) (.slice t1 t2 t3) (.slice t4 t5 t6) (.slice t7 t8 t9) (.slice t10 t11 t12) (.slice t13 t14 t15))
          have X4_32 := Lib.hid (BU.box X4_30.out (N34.symm))
          have N3_32 := Lib.hid (N3_31.out.keep (s1 := (s1, s2, s3)) (s2 := (s4, s5, s6)) (s3 := (s7, s8, s9)) (s4 := (s10, s11, s12)) (s5 := (s13, s14, s15)) X3_30.out BU)
          have N4_32 := Lib.hid (N4_30.out.keep (s1 := (s1, s2, s3)) (s2 := (s4, s5, s6)) (s3 := (s7, s8, s9)) (s4 := (s10, s11, s12)) (s5 := (s13, s14, s15)) X3_30.out BU)
          have GB_32 := Lib.hid (setB_below GB_30.out L3 (.int .i64 nb.me) (.slice t1 t2 t3) (.slice t4 t5 t6) (.slice t7 t8 t9) (.slice t10 t11 t12) (.slice t13 t14 t15))
          have XQ_32 := Lib.hid (BU.box XQ_30.out (box_ne XQ_30.out X3_30.out rfl))
          have X7_32 := Lib.hid (BU.box X7_30.out (box_ne X7_30.out X3_30.out rfl))
          have N9_32 := Lib.hid (N9_30.out.keep (s1 := (s1, s2, s3)) (s2 := (s4, s5, s6)) (s3 := (s7, s8, s9)) (s4 := (s10, s11, s12)) (s5 := (s13, s14, s15)) X3_30.out BU)
          have X9_32 := Lib.hid (BU.box X9_30.out (by omega))
          have X10_32 := Lib.hid (BU.box X10_30.out (by omega))
          have NE_32 := Lib.hid (NE_30.out.keep (s1 := (s1, s2, s3)) (s2 := (s4, s5, s6)) (s3 := (s7, s8, s9)) (s4 := (s10, s11, s12)) (s5 := (s13, s14, s15)) X3_30.out BU)
          have X13_32 := Lib.hid (BU.box X13_30.out (box_ne X13_30.out X3_30.out rfl))
          have OC_32 := Lib.hid (BU.own OC_30.out X3_30.out (by decide))
          clear BU
          unfold setB at *
          generalize (((((w5.setCell ⟨b3, 0, none⟩ (.int .i64 nb.me)).setCell ⟨b3, 1, none⟩ (.slice t1 t2 t3)).setCell ⟨b3, 2, none⟩ (.slice t4 t5 t6)).setCell ⟨b3, 3, none⟩ (.slice t7 t8 t9)).setCell ⟨b3, 4, none⟩ (.slice t10 t11 t12)).setCell ⟨b3, 5, none⟩ (.slice t13 t14 t15) = w6 at *
          have xn0 := X4_32.out.cell 0
          have xn1 := X4_32.out.cell 1
          have xn2 := X4_32.out.cell 2
          have xn3 := X4_32.out.cell 3
          have xn4 := X4_32.out.cell 4
          have xn5 := X4_32.out.cell 5
          simp only [List.getElem?_toArray, List.getElem?_cons_zero, List.getElem?_cons_succ] at xn0 xn1 xn2 xn3 xn4 xn5
          have xd0 := X13_32.out.cell 0
          have xd1 := X13_32.out.cell 1
          have xd2 := X13_32.out.cell 2
          have xd3 := X13_32.out.cell 3
          simp only [List.getElem?_toArray, List.getElem?_cons_zero, List.getElem?_cons_succ] at xd0 xd1 xd2 xd3
          go_wp2_with fail
          have D := rlearn_any b (o1, o2, o3) (o4, o5, o6) (o7, o8, o9) (o10, o11, o12) (o13, o14, o15) (i1, i2, (r1, r2, r3), 1) ⟨(i1, i2), ((prd has vals 7).map r5), 1⟩ w6 N4_32.out.br ⟨rfl, rfl, Row.of_own OC_32.out⟩ (PI_1.out.few (by omega)).seen (PI_1.out.few (by omega)).adv
          rw [HLB.out] at D
          refine D.mono ?_
          rintro e7 w7 ⟨⟨⟨x4, x5, x6⟩, ⟨x7, x8, x9⟩, rfl, hbr⟩, hb⟩
          clear xn0 xn1 xn2 xn3 xn4 xn5 xd0 xd1 xd2 xd3
          have X3_33 := Lib.hid (X3_32.out.on hb)
          have X4_33 := Lib.hid (X4_32.out.on hb)
          have N3_33 := Lib.hid (N3_32.out.on hb)
          have N4_33 := Lib.hid (N4_32.out.on hb)
          have GB_33 := Lib.hid (GB_32.out.trans (hb.mono GB_32.out.size))
          have XQ_33 := Lib.hid (XQ_32.out.on hb)
          have X7_33 := Lib.hid (X7_32.out.on hb)
          have N9_33 := Lib.hid (N9_32.out.on hb)
          have X9_33 := Lib.hid (X9_32.out.on hb)
          have X10_33 := Lib.hid (X10_32.out.on hb)
          have NE_33 := Lib.hid (NE_32.out.on hb)
          have X13_33 := Lib.hid (X13_32.out.on hb)
          have OC_33 := Lib.hid (Bk.own_on OC_32.out hb)
          clear X3_32 X4_32 N3_32 N4_32 GB_32 XQ_32 X7_32 N9_32 X9_32 X10_32 NE_32 X13_32 OC_32
          have hno : NearOwn w7 (o1, o2, o3) nb.near := by rw [ME1.out.2]; exact N4_33.out.no
          clear D hb
          have N4_34 := Lib.hid (BrN.mk hbr hno)
          clear hbr hno
          have xm0 := X4_33.out.cell 0
          have xm1 := X4_33.out.cell 1
          have xm2 := X4_33.out.cell 2
          have xm3 := X4_33.out.cell 3
          have xm4 := X4_33.out.cell 4
          have xm5 := X4_33.out.cell 5
          simp only [List.getElem?_toArray, List.getElem?_cons_zero, List.getElem?_cons_succ] at xm0 xm1 xm2 xm3 xm4 xm5
          have xmf0 := X4_33.out.fr 0
          have xmf1 := X4_33.out.fr 1
          have xmf2 := X4_33.out.fr 2
          have xmf3 := X4_33.out.fr 3
          have xmf4 := X4_33.out.fr 4
          have xmf5 := X4_33.out.fr 5
          have zz := X4_33.out.lt
          go_upto_region 19 with fail
          clear zz
          clear xm0 xm1 xm2 xm3 xm4 xm5 xmf0 xmf1 xmf2 xmf3 xmf4 xmf5
          have BU := but_setB w7 b4 (.int .i64 b.me) (.slice o1 o2 o3) (.slice x4 x5 x6) (.slice x7 x8 x9) (.slice o10 o11 o12) (.slice o13 o14 o15)
          have X3_35 := Lib.hid (BU.box X3_33.out (N34))
          have X4_35 := Lib.hid (setB_box X4_33.out (.int .i64 b.me) (.slice o1 o2 o3) (.slice x4 x5 x6) (.slice x7 x8 x9) (.slice o10 o11 o12) (.slice o13 o14 o15))
          have N3_35 := Lib.hid (N3_33.out.keep (s1 := (o1, o2, o3)) (s2 := (o4, o5, o6)) (s3 := (o7, o8, o9)) (s4 := (o10, o11, o12)) (s5 := (o13, o14, o15)) X4_33.out BU)
          have N4_35 := Lib.hid (N4_34.out.keep (s1 := (o1, o2, o3)) (s2 := (o4, o5, o6)) (s3 := (o7, o8, o9)) (s4 := (o10, o11, o12)) (s5 := (o13, o14, o15)) X4_33.out BU)
          have GB_35 := Lib.hid (setB_below GB_33.out L4 (.int .i64 b.me) (.slice o1 o2 o3) (.slice x4 x5 x6) (.slice x7 x8 x9) (.slice o10 o11 o12) (.slice o13 o14 o15))
          have XQ_35 := Lib.hid (BU.box XQ_33.out (box_ne XQ_33.out X4_33.out rfl))
          have X7_35 := Lib.hid (BU.box X7_33.out (box_ne X7_33.out X4_33.out rfl))
          have N9_35 := Lib.hid (N9_33.out.keep (s1 := (o1, o2, o3)) (s2 := (o4, o5, o6)) (s3 := (o7, o8, o9)) (s4 := (o10, o11, o12)) (s5 := (o13, o14, o15)) X4_33.out BU)
          have X9_35 := Lib.hid (BU.box X9_33.out (by omega))
          have X10_35 := Lib.hid (BU.box X10_33.out (by omega))
          have NE_35 := Lib.hid (NE_33.out.keep (s1 := (o1, o2, o3)) (s2 := (o4, o5, o6)) (s3 := (o7, o8, o9)) (s4 := (o10, o11, o12)) (s5 := (o13, o14, o15)) X4_33.out BU)
          have X13_35 := Lib.hid (BU.box X13_33.out (box_ne X13_33.out X4_33.out rfl))
          have OC_35 := Lib.hid (BU.own OC_33.out X4_33.out (by decide))
          clear BU
          unfold setB at *
          generalize (((((w7.setCell ⟨b4, 0, none⟩ (.int .i64 b.me)).setCell ⟨b4, 1, none⟩ (.slice o1 o2 o3)).setCell ⟨b4, 2, none⟩ (.slice x4 x5 x6)).setCell ⟨b4, 3, none⟩ (.slice x7 x8 x9)).setCell ⟨b4, 4, none⟩ (.slice o10 o11 o12)).setCell ⟨b4, 5, none⟩ (.slice o13 o14 o15) = w8 at *
          have hx4 : Box w8 b4 #[.int .i64 nb.me, .slice o1 o2 o3, .slice x4 x5 x6, .slice x7 x8 x9, .slice o10 o11 o12, .slice o13 o14 o15] 29 := by rw [ME1.out.1]; exact X4_35.out
          have X4_36 := Lib.hid (hx4)
          clear hx4
          clear X13_35 OC_35
          have xm0 := X3_35.out.cell 0
          have xm1 := X3_35.out.cell 1
          have xm2 := X3_35.out.cell 2
          have xm3 := X3_35.out.cell 3
          have xm4 := X3_35.out.cell 4
          have xm5 := X3_35.out.cell 5
          simp only [List.getElem?_toArray, List.getElem?_cons_zero, List.getElem?_cons_succ] at xm0 xm1 xm2 xm3 xm4 xm5
          have xc0 := X7_35.out.cell 0
          have xc1 := X7_35.out.cell 1
          simp only [List.getElem?_toArray, List.getElem?_cons_zero, List.getElem?_cons_succ] at xc0 xc1
          have xn0 := X4_36.out.cell 0
          have xn1 := X4_36.out.cell 1
          have xn2 := X4_36.out.cell 2
          have xn3 := X4_36.out.cell 3
          have xn4 := X4_36.out.cell 4
          have xn5 := X4_36.out.cell 5
          simp only [List.getElem?_toArray, List.getElem?_cons_zero, List.getElem?_cons_succ] at xn0 xn1 xn2 xn3 xn4 xn5
          obtain ⟨la, hd1, hd2⟩ := N3_35.out.br.adv
          obtain ⟨lb, he1, he2⟩ := N4_35.out.br.adv
          have FD := find_any nb.me (.slice t1 t2 t3) (.slice t7 t8 t9) (.slice t10 t11 t12) (.slice t13 t14 t15) (t4, t5, t6) la nb.adv (i1, i2) _ hd1 hd2 PI2_29.out.fp
          have FB := Lib.hid (find_both he2 (i1, i2))
          have HE := Lib.hid he1
          have HE2 := Lib.hid he2
          clear he1 he2
          go_wp2_with fail
          rcases FB.out with ⟨hf, hfi⟩ | ⟨kn, ya, a, hf, hfi, hl1, hl2, hai, haid⟩
          · rw [hf] at FD
            refine FD.mono ?_
            rintro e9 w9 ⟨rfl, hb⟩
            clear xm0 xm1 xm2 xm3 xm4 xm5 xc0 xc1 xn0 xn1 xn2 xn3 xn4 xn5
            have X3_37 := Lib.hid (X3_35.out.on hb)
            have X4_37 := Lib.hid (X4_36.out.on hb)
            have N3_37 := Lib.hid (N3_35.out.on hb)
            have N4_37 := Lib.hid (N4_35.out.on hb)
            have GB_37 := Lib.hid (GB_35.out.trans (hb.mono GB_35.out.size))
            have XQ_37 := Lib.hid (XQ_35.out.on hb)
            have X7_37 := Lib.hid (X7_35.out.on hb)
            have N9_37 := Lib.hid (N9_35.out.on hb)
            have X9_37 := Lib.hid (X9_35.out.on hb)
            have X10_37 := Lib.hid (X10_35.out.on hb)
            have NE_37 := Lib.hid (NE_35.out.on hb)
            have HE_37 := Lib.hid (HE.out.on hb)
            clear X3_35 X4_36 N3_35 N4_35 GB_35 XQ_35 X7_35 N9_35 X9_35 X10_35 NE_35 HE
            clear FD hd1 hd2
            have NN := newB w9 (.cells #[.int .i64 0, .int .i64 0, .slice none 0 0, .int .i64 0] 42)
            have X3_38 := Lib.hid (X3_37.out.on NN)
            have X4_38 := Lib.hid (X4_37.out.on NN)
            have N3_38 := Lib.hid (N3_37.out.on NN)
            have N4_38 := Lib.hid (N4_37.out.on NN)
            have GB_38 := Lib.hid (GB_37.out.trans (NN.mono GB_37.out.size))
            have XQ_38 := Lib.hid (XQ_37.out.on NN)
            have X7_38 := Lib.hid (X7_37.out.on NN)
            have N9_38 := Lib.hid (N9_37.out.on NN)
            have X9_38 := Lib.hid (X9_37.out.on NN)
            have X10_38 := Lib.hid (X10_37.out.on NN)
            have NE_38 := Lib.hid (NE_37.out.on NN)
            have HE_38 := Lib.hid (HE_37.out.on NN)
            clear X3_37 X4_37 N3_37 N4_37 GB_37 XQ_37 X7_37 N9_37 X9_37 X10_37 NE_37 HE_37
            clear NN
            have X14_39 := Lib.hid (box_new w9 #[.int .i64 0, .int .i64 0, .slice none 0 0, .int .i64 0] 42)
            have xn0 := X4_38.out.cell 0
            have xn1 := X4_38.out.cell 1
            have xn2 := X4_38.out.cell 2
            have xn3 := X4_38.out.cell 3
            have xn4 := X4_38.out.cell 4
            have xn5 := X4_38.out.cell 5
            simp only [List.getElem?_toArray, List.getElem?_cons_zero, List.getElem?_cons_succ] at xn0 xn1 xn2 xn3 xn4 xn5
            have xc0 := X7_38.out.cell 0
            have xc1 := X7_38.out.cell 1
            simp only [List.getElem?_toArray, List.getElem?_cons_zero, List.getElem?_cons_succ] at xc0 xc1
            go_wp2_with fail
            generalize w9.alloc (.cells #[.int .i64 0, .int .i64 0, .slice none 0 0, .int .i64 0] 42) = w10 at *
            have FI := rfind_any nb.me (.slice o1 o2 o3) (.slice o10 o11 o12) (.slice x7 x8 x9) (.slice o13 o14 o15) (x4, x5, x6) lb (i1, i2) w10 HE_38.out
            rw [hfi] at FI
            refine FI.mono ?_
            rintro e11 w11 ⟨rfl, hb⟩
            clear xn0 xn1 xn2 xn3 xn4 xn5 xc0 xc1
            have X3_40 := Lib.hid (X3_38.out.on hb)
            have X4_40 := Lib.hid (X4_38.out.on hb)
            have N3_40 := Lib.hid (N3_38.out.on hb)
            have N4_40 := Lib.hid (N4_38.out.on hb)
            have GB_40 := Lib.hid (GB_38.out.trans (hb.mono GB_38.out.size))
            have XQ_40 := Lib.hid (XQ_38.out.on hb)
            have X7_40 := Lib.hid (X7_38.out.on hb)
            have N9_40 := Lib.hid (N9_38.out.on hb)
            have X9_40 := Lib.hid (X9_38.out.on hb)
            have X10_40 := Lib.hid (X10_38.out.on hb)
            have NE_40 := Lib.hid (NE_38.out.on hb)
            have HE_40 := Lib.hid (HE_38.out.on hb)
            have X14_40 := Lib.hid (X14_39.out.on hb)
            clear X3_38 X4_38 N3_38 N4_38 GB_38 XQ_38 X7_38 N9_38 X9_38 X10_38 NE_38 HE_38 X14_39
            clear FI hb
            go_upto_region 21 with fail
            refine play21n _ w11 b3 b4 w3.heap.size (w3.heap.size + 1) gt nb b t1 t2 t3 t4 t5 t6 t7 t8 t9 t10 t11 t12 t13 t14 t15 o1 o2 o3 x4 x5 x6 x7 x8 x9 o10 o11 o12 o13 o14 o15 y1 y2 y3 y4 y5 y6 y7 y8 y9 y10 y11 y12 y13 y14 y15 s1 s2 s3 s4 s5 s6 s7 s8 s9 s10 s11 s12 s13 s14 s15 _ _ _ _ _ _ _ _ _ _ _ _ _ _ _ _ _ _ _ _ _ _ _ _ _ _ _ _ _ _ _ _ _ _ _ _ _ _ _ _ _ _ _ _ _ _ _ _ _ _ _ _ _ _ _ _ _ _ _ _ _ _ _ _ _ _ _ _ _ _ _ _ _ _ _ _ _ _ _ _ _ _ _ _ _ _ _ _ _ _ _ _ _ _ _ _ _ _ _ _ _ _ _ _ _ _ _ _ _ _ _ _ _ _ _ _ _ _ _ _ _ _ _ _ _ _ _ _ _ _ _ _ _ _ _ _ _ _ _ _ X3_40.out X4_40.out X9_40.out X10_40.out N3_40.out N4_40.out N9_40.out NE_40.out (PI2_29.out.few (by omega)) PI2_29.out.fewp PI2_29.out.tame ((okBr_iff nb).2 PI2_29.out.ok) (PI_1.out.few (by omega)) PI_1.out.fewp ?_
            intro x21 v95 v96 v97 v98 v99 v100 v101 v102 v103 v104 v105 v106 v107 v108 v109 v110 v111 v112 v113 v114 v115 v116 v117 v118 v119 v120 v121 v122 v123 v124 v125 v126 v127 v128 v129 v130 v131 v132 v133 v134 v135 v136 v137 v138 v139 v140 v141 v142 v143 v144 v145 hbel
            have X3_41 := Lib.hid (X3_40.out.on hbel)
            have X4_41 := Lib.hid (X4_40.out.on hbel)
            have N3_41 := Lib.hid (N3_40.out.on hbel)
            have N4_41 := Lib.hid (N4_40.out.on hbel)
            have GB_41 := Lib.hid (GB_40.out.trans (hbel.mono GB_40.out.size))
            have XQ_41 := Lib.hid (XQ_40.out.on hbel)
            have X7_41 := Lib.hid (X7_40.out.on hbel)
            have N9_41 := Lib.hid (N9_40.out.on hbel)
            have X9_41 := Lib.hid (X9_40.out.on hbel)
            have X10_41 := Lib.hid (X10_40.out.on hbel)
            have NE_41 := Lib.hid (NE_40.out.on hbel)
            have HE_41 := Lib.hid (HE_40.out.on hbel)
            have X14_41 := Lib.hid (X14_40.out.on hbel)
            clear X3_40 X4_40 N3_40 N4_40 GB_40 XQ_40 X7_40 N9_40 X9_40 X10_40 NE_40 HE_40 X14_40
            go_wp2_with fail
            go_roundw
            case rel => exact ⟨k + 1, nb, t1, t2, t3, t4, t5, t6, t7, t8, t9, t10, t11, t12, t13, t14, t15, o1, o2, o3, x4, x5, x6, x7, x8, x9, o10, o11, o12, o13, o14, o15, by omega, by omega, by go_num, PI2_29.out, X3_41.out, X4_41.out, N3_41.out, N4_41.out, GB_41.out⟩
            case measure => simp [intOf]; omega
          · rw [hf] at FD
            refine FD.mono ?_
            rintro e9 w9 ⟨⟨⟨q1, q2, ⟨q3, q4, q5⟩, q6⟩, rfl, hci⟩, hb⟩
            clear xm0 xm1 xm2 xm3 xm4 xm5 xc0 xc1 xn0 xn1 xn2 xn3 xn4 xn5
            have X3_37 := Lib.hid (X3_35.out.on hb)
            have X4_37 := Lib.hid (X4_36.out.on hb)
            have N3_37 := Lib.hid (N3_35.out.on hb)
            have N4_37 := Lib.hid (N4_35.out.on hb)
            have GB_37 := Lib.hid (GB_35.out.trans (hb.mono GB_35.out.size))
            have XQ_37 := Lib.hid (XQ_35.out.on hb)
            have X7_37 := Lib.hid (X7_35.out.on hb)
            have N9_37 := Lib.hid (N9_35.out.on hb)
            have X9_37 := Lib.hid (X9_35.out.on hb)
            have X10_37 := Lib.hid (X10_35.out.on hb)
            have NE_37 := Lib.hid (NE_35.out.on hb)
            have HE_37 := Lib.hid (HE.out.on hb)
            clear X3_35 X4_36 N3_35 N4_35 GB_35 XQ_35 X7_35 N9_35 X9_35 X10_35 NE_35 HE
            clear FD hd1 hd2
            obtain ⟨ha1, ha2, _⟩ := hci
            obtain rfl : q6 = a.par := ha2
            obtain ⟨rfl, rfl⟩ : q1 = i1 ∧ q2 = i2 := by rw [haid] at ha1; simpa using ha1
            have NN := newB w9 (.cells #[.int .i64 q1, .int .i64 q2, .slice q3 q4 q5, .int .i64 a.par] 42)
            have X3_38 := Lib.hid (X3_37.out.on NN)
            have X4_38 := Lib.hid (X4_37.out.on NN)
            have N3_38 := Lib.hid (N3_37.out.on NN)
            have N4_38 := Lib.hid (N4_37.out.on NN)
            have GB_38 := Lib.hid (GB_37.out.trans (NN.mono GB_37.out.size))
            have XQ_38 := Lib.hid (XQ_37.out.on NN)
            have X7_38 := Lib.hid (X7_37.out.on NN)
            have N9_38 := Lib.hid (N9_37.out.on NN)
            have X9_38 := Lib.hid (X9_37.out.on NN)
            have X10_38 := Lib.hid (X10_37.out.on NN)
            have NE_38 := Lib.hid (NE_37.out.on NN)
            have HE_38 := Lib.hid (HE_37.out.on NN)
            clear X3_37 X4_37 N3_37 N4_37 GB_37 XQ_37 X7_37 N9_37 X9_37 X10_37 NE_37 HE_37
            clear NN
            have X14_39 := Lib.hid (box_new w9 #[.int .i64 q1, .int .i64 q2, .slice q3 q4 q5, .int .i64 a.par] 42)
            have xn0 := X4_38.out.cell 0
            have xn1 := X4_38.out.cell 1
            have xn2 := X4_38.out.cell 2
            have xn3 := X4_38.out.cell 3
            have xn4 := X4_38.out.cell 4
            have xn5 := X4_38.out.cell 5
            simp only [List.getElem?_toArray, List.getElem?_cons_zero, List.getElem?_cons_succ] at xn0 xn1 xn2 xn3 xn4 xn5
            have xc0 := X7_38.out.cell 0
            have xc1 := X7_38.out.cell 1
            simp only [List.getElem?_toArray, List.getElem?_cons_zero, List.getElem?_cons_succ] at xc0 xc1
            go_wp2_with fail
            generalize w9.alloc (.cells #[.int .i64 q1, .int .i64 q2, .slice q3 q4 q5, .int .i64 a.par] 42) = w10 at *
            have FI := rfind_any nb.me (.slice o1 o2 o3) (.slice o10 o11 o12) (.slice x7 x8 x9) (.slice o13 o14 o15) (x4, x5, x6) lb (q1, q2) w10 HE_38.out
            rw [hfi] at FI
            refine FI.mono ?_
            rintro e11 w11 ⟨rfl, hb⟩
            clear xn0 xn1 xn2 xn3 xn4 xn5 xc0 xc1
            have X3_40 := Lib.hid (X3_38.out.on hb)
            have X4_40 := Lib.hid (X4_38.out.on hb)
            have N3_40 := Lib.hid (N3_38.out.on hb)
            have N4_40 := Lib.hid (N4_38.out.on hb)
            have GB_40 := Lib.hid (GB_38.out.trans (hb.mono GB_38.out.size))
            have XQ_40 := Lib.hid (XQ_38.out.on hb)
            have X7_40 := Lib.hid (X7_38.out.on hb)
            have N9_40 := Lib.hid (N9_38.out.on hb)
            have X9_40 := Lib.hid (X9_38.out.on hb)
            have X10_40 := Lib.hid (X10_38.out.on hb)
            have NE_40 := Lib.hid (NE_38.out.on hb)
            have HE_40 := Lib.hid (HE_38.out.on hb)
            have X14_40 := Lib.hid (X14_39.out.on hb)
            clear X3_38 X4_38 N3_38 N4_38 GB_38 XQ_38 X7_38 N9_38 X9_38 X10_38 NE_38 HE_38 X14_39
            clear FI hb
            go_upto_region 21 with fail
            obtain ⟨_, _, hve⟩ := HE_40.out.len
            have hlen : lb.length = x5 := by simpa using (congrArg (fun v => match v with | Value.slice _ n _ => n | _ => 0) hve).symm
            obtain ⟨pp, ix, px⟩ := elD HE_40.out rfl hlen hl1
            have px3 : ∀ x, Below w11.heap.size w11 x → x.cell? ⟨pp.block, pp.off + 3, none⟩ = some (.int .i64 a.par) := fun x hx => by have h := (px x hx).2.2.2; rwa [hai.2.1] at h
            refine play21s _ w11 b3 b4 b7 w3.heap.size (w3.heap.size + 1) w9.heap.size gt nb b kn q1 q2 a.par pp q3 q4 q5 t1 t2 t3 t4 t5 t6 t7 t8 t9 t10 t11 t12 t13 t14 t15 o1 o2 o3 x4 x5 x6 x7 x8 x9 o10 o11 o12 o13 o14 o15 y1 y2 y3 y4 y5 y6 y7 y8 y9 y10 y11 y12 y13 y14 y15 s1 s2 s3 s4 s5 s6 s7 s8 s9 s10 s11 s12 s13 s14 s15 _ _ _ _ _ _ _ _ _ _ _ _ _ _ _ _ _ _ _ _ _ _ _ _ _ _ _ _ _ _ _ _ _ _ _ _ _ _ _ _ _ _ _ _ _ _ _ _ _ _ _ _ _ _ _ _ _ _ _ _ _ _ _ _ _ _ _ _ _ _ _ _ _ _ _ _ _ _ _ _ _ _ _ _ _ _ _ _ _ _ _ _ _ _ _ _ _ _ _ _ _ _ _ _ _ _ _ _ _ _ _ _ _ _ _ _ _ _ _ _ _ _ _ _ _ _ _ _ _ _ _ _ _ _ _ _ _ _ X3_40.out X4_40.out X9_40.out X10_40.out N3_40.out N4_40.out N9_40.out NE_40.out (PI2_29.out.few (by omega)) PI2_29.out.fewp PI2_29.out.tame ((okBr_iff nb).2 PI2_29.out.ok) (PI_1.out.few (by omega)) PI_1.out.fewp X7_40.out X14_40.out ix px3 ?_
            intro x21 v95 v96 v97 v98 v99 v100 v101 v102 v103 v104 v105 v106 v107 v108 v109 v110 v111 v112 v113 v114 v115 v116 v117 v118 v119 v120 v121 v122 v123 v124 v125 v126 v127 v128 v129 v130 v131 v132 v133 v134 v135 v136 v137 v138 v139 v140 v141 v142 v143 v144 v145 hbel
            have X3_41 := Lib.hid (X3_40.out.on hbel)
            have X4_41 := Lib.hid (X4_40.out.on hbel)
            have N3_41 := Lib.hid (N3_40.out.on hbel)
            have N4_41 := Lib.hid (N4_40.out.on hbel)
            have GB_41 := Lib.hid (GB_40.out.trans (hbel.mono GB_40.out.size))
            have XQ_41 := Lib.hid (XQ_40.out.on hbel)
            have X7_41 := Lib.hid (X7_40.out.on hbel)
            have N9_41 := Lib.hid (N9_40.out.on hbel)
            have X9_41 := Lib.hid (X9_40.out.on hbel)
            have X10_41 := Lib.hid (X10_40.out.on hbel)
            have NE_41 := Lib.hid (NE_40.out.on hbel)
            have HE_41 := Lib.hid (HE_40.out.on hbel)
            have X14_41 := Lib.hid (X14_40.out.on hbel)
            clear X3_40 X4_40 N3_40 N4_40 GB_40 XQ_40 X7_40 N9_40 X9_40 X10_40 NE_40 HE_40 X14_40
            go_wp2_with fail
            go_roundw
            case rel => exact ⟨k + 1, nb, t1, t2, t3, t4, t5, t6, t7, t8, t9, t10, t11, t12, t13, t14, t15, o1, o2, o3, x4, x5, x6, x7, x8, x9, o10, o11, o12, o13, o14, o15, by omega, by omega, by go_num, PI2_29.out, X3_41.out, X4_41.out, N3_41.out, N4_41.out, GB_41.out⟩
            case measure => simp [intOf]; omega
    · have hx : n ≤ k ∨ (k < n ∧ 25 ≤ k) := by omega
      rcases hx with hx | ⟨hx, hy⟩
      all_goals
        first | (have q1 : ¬ ((k : Int) < (n : Int)) := (by omega)) | (have q1 : (k : Int) < (n : Int) := (by omega); have q2 : ¬ ((k : Int) < 25) := (by omega))
        go_wp2_with fail
        refine (runs_any wr).mono ?_
        rintro e8 w8 ⟨rfl, hb⟩
        go_wp2
        go_ret
        exact ⟨rfl, GB_6.out.trans (hb.mono GB_6.out.size)⟩
end Go.Proofs.YtonoadjmglkhaaaGreat.Av
