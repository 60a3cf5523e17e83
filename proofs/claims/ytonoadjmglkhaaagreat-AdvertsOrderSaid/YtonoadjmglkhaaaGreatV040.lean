/-
  What a store into a map of IDs leaves: variables, rows, brokers. No program's function in it.
  Rows of one's own of advertisements with predicates of their own, through appends and stores. No program's function in it.
  AdvertsOrder's region that learns an advertisement of a row. Conditions: at most 900 of each row; the rows rise.
-/
import Derived.Test.YtonoadjmglkhaaaGreatV031
import Derived.Test.YtonoadjmglkhaaaGreatV020
import Derived.Test.YtonoadjmglkhaaaGreatV036
import Derived.Test.YtonoadjmglkhaaaGreatV039
import Derived.Test.YtonoadjmglkhaaaGreatV021
namespace Go.Proofs.YtonoadjmglkhaaaGreat.Av
open Go.RowKit Go.Sort Go.Proofs.YtonoadjmglkhaaaGreat Go.Proofs.YtonoadjmglkhaaaGreat.Rw Go.Proofs.YtonoadjmglkhaaaGreat.Nm Go.Proofs.YtonoadjmglkhaaaGreat.Pr Go.Proofs.YtonoadjmglkhaaaGreat.Bk

theorem but_grown {W W' : World} {b : Nat} (h : W.grownBy W' (some b)) : But b W W' := ⟨fun k hk hne => h.block k hk (by simpa using hne), h.size⟩
theorem InMap.isMap {W : World} {b : Nat} {s : List XID} (h : InMap W b s) : ∃ es clock, W.heap[b]? = some (.map es clock) := by
  obtain ⟨n, D, _, ⟨es, clock, h2, _⟩, _⟩ := h
  exact ⟨es, clock, h2⟩
theorem InMap.noBox {W : World} {b c : Nat} {s : List XID} {cs : Array Value} {t : TypeId} (h : InMap W b s) (hb : Box W c cs t) : c ≠ b := by
  rintro rfl
  obtain ⟨es, clock, h2⟩ := h.isMap
  unfold Box at hb
  rw [h2] at hb
  cases hb
theorem InMap.noCell {W : World} {b : Nat} {s : List XID} (h : InMap W b s) {a : Addr} {v : Value} (hc : W.cell? a = some v) : a.block ≠ b := by
  rintro rfl
  obtain ⟨es, clock, h2⟩ := h.isMap
  unfold World.cell? at hc
  rw [h2] at hc
  simp at hc
theorem Box.map {W W' : World} {b c : Nat} {s : List XID} {cs : Array Value} {t : TypeId} (hb : Box W c cs t) (h : InMap W b s) (hk : But b W W') : Box W' c cs t := hk.box hb (h.noBox hb)
theorem noRow {α : Type} {E : Ek α} {W : World} {b : Nat} {s : List XID} (h : InMap W b s) (hE : ∀ c : α, ∃ v, (E.cells c)[0]? = some v) (a : Addr) (c : α) (hc : ∀ j u, (E.cells c)[j]? = some u → W.cell? (a.add j) = some u) : a.block ≠ b := by
  obtain ⟨v, hv⟩ := hE c
  have := h.noCell (hc 0 v hv)
  rwa [add_blk] at this
theorem BrN.map {W W' : World} {m : Nat} {s : List XID} {b : Br} {nv av sv ev ov : Sl} (h : BrN W b nv av sv ev ov) (hm : InMap W m s) (hk : But m W W') : BrN W' b nv av sv ev ov := by
  obtain ⟨B, hn⟩ := h.no
  have hn2 : OwnI W' B (slv nv) b.near := by
    refine ⟨hn.1, ?_⟩
    rcases hn.2 with h2 | ⟨g', cap, cur, h1, h2, h3, h4⟩
    · exact Or.inl h2
    · exact Or.inr ⟨g', cap, cur, h1, h2, by rw [hk.1 g' (lt_of_heap h3) (hm.noBox (show Box W g' cur _ from h3))]; exact h3, h4⟩
  have R := fun {α : Type} {E : Ek α} (K : E.Ok) (hE : ∀ c : α, ∃ v, (E.cells c)[0]? = some v) {v : Value} {l : List α} (hr : Row E W v l) => row_keep K hr hk.1 (noRow hm hE)
  refine ⟨⟨Row.of_own hn2, ?_, R okJ (fun c => ⟨_, rfl⟩) h.br.seen, ?_, ?_⟩, B, hn2⟩
  · obtain ⟨l, h1, h2⟩ := h.br.adv
    exact ⟨l, R okD (fun c => ⟨_, rfl⟩) h1, h2.mono fun x a hx => ⟨hx.1, hx.2.1, R okC (fun c => ⟨_, rfl⟩) hx.2.2⟩⟩
  · obtain ⟨l, h1, h2⟩ := h.br.ent
    exact ⟨l, R okN (fun c => ⟨_, rfl⟩) h1, h2.mono fun x a hx => ⟨hx.1, hx.2.1, hx.2.2.1, hx.2.2.2.1, R okC (fun c => ⟨_, rfl⟩) hx.2.2.2.2⟩⟩
  · obtain ⟨l, h1, h2⟩ := h.br.own
    exact ⟨l, R okW (fun c => ⟨_, rfl⟩) h1, h2.mono fun x a hx => ⟨hx.1, R okC (fun c => ⟨_, rfl⟩) hx.2⟩⟩
theorem but_below {W0 W W' : World} {b B : Nat} (h : Below B W0 W) (hg : W.grownBy W' (some b)) (hb : B ≤ b) (hl : b < W.heap.size) : Below B W0 W' :=
  h.grown hg (Nat.le_of_lt (Nat.lt_of_le_of_lt hb hl)) (fun j hj => by cases hj; exact hb)
/-- A store into a broker's variable leaves a map. -/
theorem InMap.keep {W W' : World} {m k : Nat} {s : List XID} {cs : Array Value} {t : TypeId} (h : InMap W m s) (hb : Box W k cs t) (hk : But k W W') : InMap W' m s := h.of_block (hk.1 m h.lt (h.noBox hb).symm)
end Go.Proofs.YtonoadjmglkhaaaGreat.Av

namespace Go.Proofs.YtonoadjmglkhaaaGreat.Av
open Go.RowKit Go.Sort Go.Proofs.YtonoadjmglkhaaaGreat Go.Proofs.YtonoadjmglkhaaaGreat.Rw Go.Proofs.YtonoadjmglkhaaaGreat.Nm Go.Proofs.YtonoadjmglkhaaaGreat.Pr Go.Proofs.YtonoadjmglkhaaaGreat.Bk

/-- What an append onto a row of one's own leaves of rows of another kind. -/
theorem own_app {α β : Type} {E : Ek α} {F : Ek β} {W W' : World} {B B' : Nat} {v u : Value} {l : List β} {m : List α} (ho : Own F W B v l) (gr : W.grownBy W' v.ownBlock) (h : Own E W B' u m) (hne : (E.t == F.t) = false) : Own E W' B' u m := by
  rcases own_open ho with ⟨h1, _⟩ | ⟨g, c, cur, h1, _, h2, _⟩
  · rw [h1] at gr
    exact Bk.own_on h ((Below.refl _ _).grown gr (Nat.le_refl _) (fun j hj => by cases hj))
  · rw [h1] at gr
    exact (but_grown (b := g) gr).own h h2 hne
theorem box_app {β : Type} {F : Ek β} {W W' : World} {B k : Nat} {v : Value} {l : List β} {cs : Array Value} {t : TypeId} (ho : Own F W B v l) (gr : W.grownBy W' v.ownBlock) (h : Box W k cs t) (hne : (t == F.t) = false) : Box W' k cs t := by
  rcases own_open ho with ⟨h1, _⟩ | ⟨g, c, cur, h1, _, h2, _⟩
  · rw [h1] at gr
    exact h.on ((Below.refl _ _).grown gr (Nat.le_refl _) (fun j hj => by cases hj))
  · rw [h1] at gr
    exact (but_grown (b := g) gr).box h (box_ne h h2 hne)
theorem map_app {β : Type} {F : Ek β} {W W' : World} {B k : Nat} {v : Value} {l : List β} {s : List XID} (ho : Own F W B v l) (gr : W.grownBy W' v.ownBlock) (h : InMap W k s) : InMap W' k s := by
  rcases own_open ho with ⟨h1, _⟩ | ⟨g, c, cur, h1, _, h2, _⟩
  · rw [h1] at gr
    exact h.on ((Below.refl _ _).grown gr (Nat.le_refl _) (fun j hj => by cases hj))
  · rw [h1] at gr
    exact h.keep h2 (but_grown (b := g) gr)
theorem own_map {α : Type} {E : Ek α} {W W' : World} {B m : Nat} {s : List XID} {v : Value} {l : List α} (h : Own E W B v l) (hm : InMap W m s) (hk : But m W W') : Own E W' B v l := by
  refine ⟨h.1, ?_⟩
  rcases h.2 with h2 | ⟨g', cap, cur, h1, h2, h3, h4⟩
  · exact Or.inl h2
  · exact Or.inr ⟨g', cap, cur, h1, h2, by rw [hk.1 g' (lt_of_heap h3) (hm.noBox (show Box W g' cur _ from h3))]; exact h3, h4⟩
/-- An advertisement in memory, its predicate in a row of its own. -/
def AdO (W : World) (B : Nat) (x : XAd) (a : Ad) : Prop := (x.1, x.2.1) = a.id ∧ x.2.2.2 = a.par ∧ OwnC W B (slv x.2.2.1) a.p
theorem AdO.ad {W : World} {B : Nat} {x : XAd} {a : Ad} (h : AdO W B x a) : AdIn W x a := ⟨h.1, h.2.1, Row.of_own h.2.2⟩
/-- A row of one's own of advertisements. -/
structure AdR (W : World) (B : Nat) (v : Value) (lx : List XAd) (l : List Ad) : Prop where
  row : OwnD W B v lx
  all : All2 (AdO W B) lx l
theorem AdR.on {W W' : World} {B : Nat} {v : Value} {lx : List XAd} {l : List Ad} (h : AdR W B v lx l) (hb : Below W.heap.size W W') : AdR W' B v lx l := ⟨Bk.own_on h.row hb, h.all.mono fun _ _ q => ⟨q.1, q.2.1, Bk.own_on q.2.2 hb⟩⟩
theorem AdR.map {W W' : World} {B m : Nat} {s : List XID} {v : Value} {lx : List XAd} {l : List Ad} (h : AdR W B v lx l) (hm : InMap W m s) (hk : But m W W') : AdR W' B v lx l := ⟨own_map h.row hm hk, h.all.mono fun _ _ q => ⟨q.1, q.2.1, own_map q.2.2 hm hk⟩⟩
theorem all2_snoc {α β : Type} {R : α → β → Prop} {x : α} {y : β} (hx : R x y) : ∀ {l : List α} {m : List β}, All2 R l m → All2 R (l ++ [x]) (m ++ [y])
  | _, _, .nil => .cons hx .nil
  | _, _, .cons h t => .cons h (all2_snoc hx t)
/-- One more behind the others. -/
theorem AdR.push {W W' : World} {B : Nat} {v v' : Value} {lx : List XAd} {l : List Ad} {x : XAd} {a : Ad} (h : AdR W B v lx l) (gr : W.grownBy W' v.ownBlock) (ho : OwnD W' B v' (lx ++ [x])) (hx : AdO W B x a) : AdR W' B v' (lx ++ [x]) (l ++ [a]) :=
  ⟨ho, all2_snoc ⟨hx.1, hx.2.1, own_app h.row gr hx.2.2 (by decide)⟩ (h.all.mono fun _ _ q => ⟨q.1, q.2.1, own_app h.row gr q.2.2 (by decide)⟩)⟩
end Go.Proofs.YtonoadjmglkhaaaGreat.Av

namespace Go.Proofs.YtonoadjmglkhaaaGreat.Av
open Go.RowKit Go.Sort Go.Proofs.YtonoadjmglkhaaaGreat Go.Proofs.YtonoadjmglkhaaaGreat.Rw Go.Proofs.YtonoadjmglkhaaaGreat.Nm Go.Proofs.YtonoadjmglkhaaaGreat.Pr Go.Proofs.YtonoadjmglkhaaaGreat.Bk

def ord25V (k : Nat) (rv : Value) (p : Addr) (z : XAd) (a_ : Ad) (b : Br) (s1 : Option Addr) (s2 s3 : Nat) (s4 : Option Addr) (s5 s6 : Nat) (s7 : Option Addr) (s8 s9 : Nat) (s10 : Option Addr) (s11 s12 : Nat) (s13 : Option Addr) (s14 s15 : Nat) (i : Nat) (v : Value) (x : World) : Prop :=
  match i with
  | 0 => v = brv b.me (s1, s2, s3) (s4, s5, s6) (s7, s8, s9) (s10, s11, s12) (s13, s14, s15)
  | 1 => v = rv
  | 2 => v = .int .i64 (k : Int)
  | 3 => v = .pointer (some p)
  | 4 => v = valD z
  | 5 => ∃ nv av sv ev ov : Sl, v = .tuple #[brv (learnB b a_).1.me nv av sv ev ov, .bool (learnB b a_).2] ∧ BrN x (learnB b a_).1 nv av sv ev ov
  | 6 => ∃ nv av sv ev ov : Sl, v = .tuple #[brv (learnB b a_).1.me nv av sv ev ov, .bool (learnB b a_).2] ∧ BrN x (learnB b a_).1 nv av sv ev ov
  | 7 => ∃ nv av sv ev ov : Sl, v = brv (learnB b a_).1.me nv av sv ev ov ∧ BrN x (learnB b a_).1 nv av sv ev ov
  | 8 => True
  | _ => True
noncomputable def ord25C : Code := ((Tryz.f5.body.bind (findRegion 25)).getD .skip)
set_option maxRecDepth 100000 in
set_option maxHeartbeats 8000000 in
theorem ord25 (Q : Exit → Act → World → Prop) (W : World) (bb k : Nat) (rv : Value) (p : Addr) (z : XAd) (a_ : Ad) (b : Br) (s1 : Option Addr) (s2 s3 : Nat) (s4 : Option Addr) (s5 s6 : Nat) (s7 : Option Addr) (s8 s9 : Nat) (s10 : Option Addr) (s11 s12 : Nat) (s13 : Option Addr) (s14 s15 : Nat) (u0 u1 u2 u3 u4 u5 u6 u7 u8 u10 u11 u12 u13 u14 u15 u16 u17 u19 u21 u22 u23 u24 u25 u26 u27 u28 u29 u30 u31 u32 u33 u34 u35 u36 u37 u38 u39 u40 u41 u42 u43 u44 u45 u46 u47 u48 u49 u50 u51 u52 u53 u54 u55 u56 u57 u58 u59 u60 u61 u62 u63 u64 u65 u66 u67 u68 u69 u70 u71 u72 u73 u74 u75 u76 u77 u78 u79 u80 u81 u82 u83 u84 u85 u86 u87 u88 u89 u90 u91 u92 u93 u94 u95 u96 u97 u98 u99 u100 u101 u102 u103 u104 u105 u106 u107 u108 u109 u110 u111 u112 u113 u114 u115 u116 u117 u118 u119 u120 u121 u122 u123 u124 u125 u126 u127 u128 u129 u130 u131 u132 u133 u134 u135 u136 u137 u138 u139 u140 u141 u142 u143 u144 u145 u146 u147 u148 u149 u150 u151 u152 u153 u154 u155 u156 u157 u158 u159 u160 u161 u162 u163 u164 u165 u166 u167 u168 u169 u170 u171 u172 u173 u174 u175 u176 u177 u178 u179 u180 u181 u182 u183 u184 u185 u186 u187 u188 u189 u190 u191 u192 u193 : Value)
    (hbox : Box W bb #[.int .i64 b.me, .slice s1 s2 s3, .slice s4 s5 s6, .slice s7 s8 s9, .slice s10 s11 s12, .slice s13 s14 s15] 29) (bn : BrN W b (s1, s2, s3) (s4, s5, s6) (s7, s8, s9) (s10, s11, s12) (s13, s14, s15)) (ix : ∀ w, (Instr.indexAt 24 rv (.int .i64 (k : Int))).run Tryz.prog w = .ok (.pointer (some p)) w) (px : ∀ x, Below W.heap.size W x → ∀ j u, (cellsD z)[j]? = some u → x.cell? (p.add j) = some u) (ai : AdIn W z a_) (fw : Few b) (fp : FewP b) (pl : a_.p.length ≤ 900) (rs : RiseI b.seen) (ra : RiseA b.adv)
    (hQ : ∀ (x : World) (v128 v129 v130 v131 v132 v133 v134 v135 v136 : Value) (m1 : Option Addr) (m2 m3 : Nat) (m4 : Option Addr) (m5 m6 : Nat) (m7 : Option Addr) (m8 m9 : Nat) (m10 : Option Addr) (m11 m12 : Nat) (m13 : Option Addr) (m14 m15 : Nat), Box x bb #[.int .i64 (learnB b a_).1.me, .slice m1 m2 m3, .slice m4 m5 m6, .slice m7 m8 m9, .slice m10 m11 m12, .slice m13 m14 m15] 29 → BrN x (learnB b a_).1 (m1, m2, m3) (m4, m5, m6) (m7, m8, m9) (m10, m11, m12) (m13, m14, m15) → Rg.Sto bb W x → Q .normal ⟨(u0 :: u1 :: u2 :: u3 :: u4 :: u5 :: u6 :: u7 :: u8 :: rv :: u10 :: u11 :: u12 :: u13 :: u14 :: u15 :: u16 :: u17 :: .pointer (some ⟨bb, 0, none⟩) :: u19 :: .int .i64 (k : Int) :: u21 :: u22 :: u23 :: u24 :: u25 :: u26 :: u27 :: u28 :: u29 :: u30 :: u31 :: u32 :: u33 :: u34 :: u35 :: u36 :: u37 :: u38 :: u39 :: u40 :: u41 :: u42 :: u43 :: u44 :: u45 :: u46 :: u47 :: u48 :: u49 :: u50 :: u51 :: u52 :: u53 :: u54 :: u55 :: u56 :: u57 :: u58 :: u59 :: u60 :: u61 :: u62 :: u63 :: u64 :: u65 :: u66 :: u67 :: u68 :: u69 :: u70 :: u71 :: u72 :: u73 :: u74 :: u75 :: u76 :: u77 :: u78 :: u79 :: u80 :: u81 :: u82 :: u83 :: u84 :: u85 :: u86 :: u87 :: u88 :: u89 :: u90 :: u91 :: u92 :: u93 :: u94 :: u95 :: u96 :: u97 :: u98 :: u99 :: u100 :: u101 :: u102 :: u103 :: u104 :: u105 :: u106 :: u107 :: u108 :: u109 :: u110 :: u111 :: u112 :: u113 :: u114 :: u115 :: u116 :: u117 :: u118 :: u119 :: u120 :: u121 :: u122 :: u123 :: u124 :: u125 :: u126 :: u127 :: v128 :: v129 :: v130 :: v131 :: v132 :: v133 :: v134 :: v135 :: v136 :: u137 :: u138 :: u139 :: u140 :: u141 :: u142 :: u143 :: u144 :: u145 :: u146 :: u147 :: u148 :: u149 :: u150 :: u151 :: u152 :: u153 :: u154 :: u155 :: u156 :: u157 :: u158 :: u159 :: u160 :: u161 :: u162 :: u163 :: u164 :: u165 :: u166 :: u167 :: u168 :: u169 :: u170 :: u171 :: u172 :: u173 :: u174 :: u175 :: u176 :: u177 :: u178 :: u179 :: u180 :: u181 :: u182 :: u183 :: u184 :: u185 :: u186 :: u187 :: u188 :: u189 :: u190 :: u191 :: u192 :: u193 :: []).toArray, []⟩ x) :
    Code.wp Tryz.prog ord25C Q ⟨(u0 :: u1 :: u2 :: u3 :: u4 :: u5 :: u6 :: u7 :: u8 :: rv :: u10 :: u11 :: u12 :: u13 :: u14 :: u15 :: u16 :: u17 :: .pointer (some ⟨bb, 0, none⟩) :: u19 :: .int .i64 (k : Int) :: u21 :: u22 :: u23 :: u24 :: u25 :: u26 :: u27 :: u28 :: u29 :: u30 :: u31 :: u32 :: u33 :: u34 :: u35 :: u36 :: u37 :: u38 :: u39 :: u40 :: u41 :: u42 :: u43 :: u44 :: u45 :: u46 :: u47 :: u48 :: u49 :: u50 :: u51 :: u52 :: u53 :: u54 :: u55 :: u56 :: u57 :: u58 :: u59 :: u60 :: u61 :: u62 :: u63 :: u64 :: u65 :: u66 :: u67 :: u68 :: u69 :: u70 :: u71 :: u72 :: u73 :: u74 :: u75 :: u76 :: u77 :: u78 :: u79 :: u80 :: u81 :: u82 :: u83 :: u84 :: u85 :: u86 :: u87 :: u88 :: u89 :: u90 :: u91 :: u92 :: u93 :: u94 :: u95 :: u96 :: u97 :: u98 :: u99 :: u100 :: u101 :: u102 :: u103 :: u104 :: u105 :: u106 :: u107 :: u108 :: u109 :: u110 :: u111 :: u112 :: u113 :: u114 :: u115 :: u116 :: u117 :: u118 :: u119 :: u120 :: u121 :: u122 :: u123 :: u124 :: u125 :: u126 :: u127 :: u128 :: u129 :: u130 :: u131 :: u132 :: u133 :: u134 :: u135 :: u136 :: u137 :: u138 :: u139 :: u140 :: u141 :: u142 :: u143 :: u144 :: u145 :: u146 :: u147 :: u148 :: u149 :: u150 :: u151 :: u152 :: u153 :: u154 :: u155 :: u156 :: u157 :: u158 :: u159 :: u160 :: u161 :: u162 :: u163 :: u164 :: u165 :: u166 :: u167 :: u168 :: u169 :: u170 :: u171 :: u172 :: u173 :: u174 :: u175 :: u176 :: u177 :: u178 :: u179 :: u180 :: u181 :: u182 :: u183 :: u184 :: u185 :: u186 :: u187 :: u188 :: u189 :: u190 :: u191 :: u192 :: u193 :: []).toArray, []⟩ W := by
  have HQ := Lib.hid hQ
  have HB := Lib.hid hbox
  have BN := Lib.hid bn
  have IX := Lib.hid ix
  have PX := Lib.hid px
  have AI := Lib.hid ai
  have FW := Lib.hid fw
  have FP := Lib.hid fp
  have PLN := Lib.hid pl
  have RS_ := Lib.hid rs
  have RA := Lib.hid ra
  clear hQ hbox bn ix px ai fw fp pl rs ra
  unfold ord25C
  conv => arg 2; whnf
  have nb18 : ∀ i, i < 10 → [129, 130, 131, 132, 133, 134, 128, 135, 136, 135].getD i 0 ≠ 18 := by decide
  have nb9 : ∀ i, i < 10 → [129, 130, 131, 132, 133, 134, 128, 135, 136, 135].getD i 0 ≠ 9 := by decide
  have nb20 : ∀ i, i < 10 → [129, 130, 131, 132, 133, 134, 128, 135, 136, 135].getD i 0 ≠ 20 := by decide
  refine Rg.region_st 10 9 7 (fun i => [129, 130, 131, 132, 133, 134, 128, 135, 136, 135].getD i 0) (fun _ => 10) (ord25V k rv p z a_ b s1 s2 s3 s4 s5 s6 s7 s8 s9 s10 s11 s12 s13 s14 s15) (fun i => i == 8) 29 bb #[.int .i64 b.me, .slice s1 s2 s3, .slice s4 s5 s6, .slice s7 s8 s9, .slice s10 s11 s12, .slice s13 s14 s15] (fun v => match v with | .agg c => c | _ => #[]) (by kernel_rfl) (by kernel_rfl) rfl (by decide) (by decide) (by decide) (by decide) HB.out (fun i j hi hj h1 h2 h => (by decide : ∀ i, i < 10 → ∀ j, j < 10 → i ≠ 9 → j ≠ 9 → [129, 130, 131, 132, 133, 134, 128, 135, 136, 135].getD i 0 = [129, 130, 131, 132, 133, 134, 128, 135, 136, 135].getD j 0 → i = j) i hi j hj h1 h2 h) (fun i hi _ => (by decide : ∀ i, i < 10 → [129, 130, 131, 132, 133, 134, 128, 135, 136, 135].getD i 0 < 194) i hi) ?_ ?_ (by decide) ?_ ?_ (fun j _ _ => Or.inl (by decide)) ?_
  · intro i v x x' hi h hb
    by_cases hi9 : i < 9
    · rcases (by omega : i = 0 ∨ i = 1 ∨ i = 2 ∨ i = 3 ∨ i = 4 ∨ i = 5 ∨ i = 6 ∨ i = 7 ∨ i = 8) with rfl | rfl | rfl | rfl | rfl | rfl | rfl | rfl | rfl
      · exact h
      · exact h
      · exact h
      · exact h
      · exact h
      · obtain ⟨a1, a2, a3, a4, a5, h1, h2⟩ := h; exact ⟨a1, a2, a3, a4, a5, h1, h2.on hb⟩
      · obtain ⟨a1, a2, a3, a4, a5, h1, h2⟩ := h; exact ⟨a1, a2, a3, a4, a5, h1, h2.on hb⟩
      · obtain ⟨a1, a2, a3, a4, a5, h1, h2⟩ := h; exact ⟨a1, a2, a3, a4, a5, h1, h2.on hb⟩
      · exact h
    · obtain rfl : i = 9 := by omega
      trivial
  · intro o ho i hi hi9 hfi
    obtain rfl := Option.some.inj ho
    have h8 : i ≠ 8 := fun e => by rw [e] at hfi; simp at hfi
    rcases (by omega : i = 0 ∨ i = 1 ∨ i = 2 ∨ i = 3 ∨ i = 4 ∨ i = 5 ∨ i = 6 ∨ i = 7) with rfl | rfl | rfl | rfl | rfl | rfl | rfl | rfl
    · exact ⟨⟨0, .phase⟩, by simp, rfl, rfl⟩
    · exact ⟨⟨1, .phase⟩, by simp, rfl, rfl⟩
    · exact ⟨⟨2, .phase⟩, by simp, rfl, rfl⟩
    · exact ⟨⟨3, .phase⟩, by simp, rfl, rfl⟩
    · exact ⟨⟨4, .phase⟩, by simp, rfl, rfl⟩
    · exact ⟨⟨5, .chain⟩, by simp, rfl, rfl⟩
    · exact ⟨⟨6, .phase⟩, by simp, rfl, rfl⟩
    · exact ⟨⟨7, .data⟩, by simp, rfl, rfl⟩
  · intro i o hi hi9 ho a x hpre seen K hK
    clear HQ
    rcases (by omega : i = 0 ∨ i = 1 ∨ i = 2 ∨ i = 3 ∨ i = 4 ∨ i = 5 ∨ i = 6 ∨ i = 7 ∨ i = 8) with rfl | rfl | rfl | rfl | rfl | rfl | rfl | rfl | rfl
    · obtain rfl := Option.some.inj ho
      obtain ⟨hb, hbx⟩ := hpre rfl
      have e18 : a.eval (.tmp 18) = .pointer (some ⟨bb, 0, none⟩) := seen.kp 18 _ nb18 rfl
      exact Rg.op_value rfl rfl (Rg.ex_load a.eval _ 29 (.tmp 18) rfl (by rw [e18]; exact loadBr hbx)) (hK _ x rfl (Below.refl _ _))
    · obtain rfl := Option.some.inj ho
      obtain ⟨hb, hbx⟩ := hpre rfl
      have e9 : a.eval (.tmp 9) = rv := seen.kp 9 _ nb9 rfl
      exact Rg.op_value rfl rfl (Rg.ex_move a.eval _ (.tmp 9) rfl x) (hK _ x e9 (Below.refl _ _))
    · obtain rfl := Option.some.inj ho
      obtain ⟨hb, hbx⟩ := hpre rfl
      have e20 : a.eval (.tmp 20) = .int .i64 (k : Int) := seen.kp 20 _ nb20 rfl
      exact Rg.op_value rfl rfl (Rg.ex_move a.eval _ (.tmp 20) rfl x) (hK _ x e20 (Below.refl _ _))
    · obtain rfl := Option.some.inj ho
      obtain ⟨hb, hbx⟩ := hpre rfl
      have e130 : a.eval (.tmp 130) = rv := seen.at_ ⟨1, .data⟩ (by simp) rfl (by decide) (Or.inr (by decide))
      have e131 : a.eval (.tmp 131) = .int .i64 (k : Int) := seen.at_ ⟨2, .data⟩ (by simp) rfl (by decide) (Or.inr (by decide))
      exact Rg.op_value rfl rfl (Rg.ex_index a.eval _ 24 (.tmp 130) (.tmp 131) rfl (by rw [e130, e131]; exact IX.out x)) (hK _ x rfl (Below.refl _ _))
    · obtain rfl := Option.some.inj ho
      obtain ⟨hb, hbx⟩ := hpre rfl
      have e132 : a.eval (.tmp 132) = .pointer (some p) := seen.at_ ⟨3, .data⟩ (by simp) rfl (by decide) (Or.inr (by decide))
      exact Rg.op_value rfl rfl (Rg.ex_load a.eval _ 42 (.tmp 132) rfl (by rw [e132]; exact loadD x p z (PX.out x hb))) (hK _ x rfl (Below.refl _ _))
    · obtain rfl := Option.some.inj ho
      obtain ⟨hb, hbx⟩ := hpre rfl
      have e129 : a.eval (.tmp 129) = brv b.me (s1, s2, s3) (s4, s5, s6) (s7, s8, s9) (s10, s11, s12) (s13, s14, s15) := seen.at_ ⟨0, .data⟩ (by simp) rfl (by decide) (Or.inr (by decide))
      have e133 : a.eval (.tmp 133) = valD z := seen.at_ ⟨4, .data⟩ (by simp) rfl (by decide) (Or.inr (by decide))
      exact Rg.op_call rfl rfl (Rw.ex_call2 a.eval _ (.tmp 129) (.tmp 133) 29 42 10 rfl e129 e133 rfl _ (call_fn Tryz.func10 rfl rfl _ _)) (learn_any b a_ (s1, s2, s3) (s4, s5, s6) (s7, s8, s9) (s10, s11, s12) (s13, s14, s15) z x (BN.out.on hb).br (AI.out.on hb) FW.out FP.out PLN.out RS_.out RA.out) fun e w1 h => by
        obtain ⟨⟨a1, a2, a3, a4, a5, rfl, h2, h3⟩, h5⟩ := h
        exact ⟨_, rfl, hK _ _ ⟨a1, a2, a3, a4, a5, rfl, h2, h3 (BN.out.on hb).no⟩ h5⟩
    · obtain rfl := Option.some.inj ho
      obtain ⟨hb, hbx⟩ := hpre rfl
      have E := seen.at_ ⟨5, .data⟩ (by simp) rfl (by decide) (Or.inr (by decide))
      exact Rg.op_value rfl rfl (Rg.ex_move a.eval _ (.tmp 134) rfl x) (hK _ x E (Below.refl _ _))
    · obtain rfl := Option.some.inj ho
      obtain ⟨hb, hbx⟩ := hpre rfl
      have E := seen.at_ ⟨6, .data⟩ (by simp) rfl (by decide) (Or.inr (by decide))
      obtain ⟨a1, a2, a3, a4, a5, h1, h2⟩ := E
      exact Rg.op_value rfl rfl (ex_extract a.eval _ (.tmp 128) 0 rfl h1 rfl x) (hK _ x ⟨a1, a2, a3, a4, a5, rfl, h2⟩ (Below.refl _ _))
    · obtain rfl := Option.some.inj ho
      have E := seen.at_ ⟨6, .data⟩ (by simp) rfl (by decide) (Or.inr (by decide))
      obtain ⟨a1, a2, a3, a4, a5, h1, h2⟩ := E
      exact Rg.op_value rfl rfl (ex_extract a.eval _ (.tmp 128) 1 rfl h1 rfl x) (hK _ x trivial (Below.refl _ _))
  · intro o ho a x v hb hbx hC hvC hbase K hK
    clear HQ
    obtain rfl := Option.some.inj ho
    obtain ⟨⟨m1, m2, m3⟩, ⟨m4, m5, m6⟩, ⟨m7, m8, m9⟩, ⟨m10, m11, m12⟩, ⟨m13, m14, m15⟩, hv1, hv2⟩ := hvC
    subst hv1
    have hbut := but_setB x bb (.int .i64 (learnB b a_).1.me) (.slice m1 m2 m3) (.slice m4 m5 m6) (.slice m7 m8 m9) (.slice m10 m11 m12) (.slice m13 m14 m15)
    have eB : a.eval (.tmp 18) = .pointer (some ⟨bb, 0, none⟩) := hbase 18 _ rfl nb18
    refine Rg.op_store 29 (.tmp 18) (.tmp 135) rfl rfl rfl rfl eB hC (w' := setB x bb (.int .i64 (learnB b a_).1.me) (.slice m1 m2 m3) (.slice m4 m5 m6) (.slice m7 m8 m9) (.slice m10 m11 m12) (.slice m13 m14 m15)) (storeBr hbx _ _ _ _ _ _ _ _ _ _ _ _ _ _ _ _) (hK _ hbut (fun B w hB h => setB_below h hB _ _ _ _ _ _) (setB_box hbx _ _ _ _ _ _) ?_)
    intro j u hj hj9 _ h
    rcases (by omega : j = 0 ∨ j = 1 ∨ j = 2 ∨ j = 3 ∨ j = 4 ∨ j = 5 ∨ j = 6 ∨ j = 7 ∨ j = 8) with rfl | rfl | rfl | rfl | rfl | rfl | rfl | rfl | rfl
    · have h2 : u = brv b.me (s1, s2, s3) (s4, s5, s6) (s7, s8, s9) (s10, s11, s12) (s13, s14, s15) := h; exact h2
    · have h2 : u = rv := h; exact h2
    · have h2 : u = .int .i64 (k : Int) := h; exact h2
    · have h2 : u = .pointer (some p) := h; exact h2
    · have h2 : u = valD z := h; exact h2
    · obtain ⟨a1, a2, a3, a4, a5, h1, h2⟩ := h; exact ⟨a1, a2, a3, a4, a5, h1, h2.keep (s1 := (s1, s2, s3)) (s2 := (s4, s5, s6)) (s3 := (s7, s8, s9)) (s4 := (s10, s11, s12)) (s5 := (s13, s14, s15)) hbx hbut⟩
    · obtain ⟨a1, a2, a3, a4, a5, h1, h2⟩ := h; exact ⟨a1, a2, a3, a4, a5, h1, h2.keep (s1 := (s1, s2, s3)) (s2 := (s4, s5, s6)) (s3 := (s7, s8, s9)) (s4 := (s10, s11, s12)) (s5 := (s13, s14, s15)) hbx hbut⟩
    · obtain ⟨a1, a2, a3, a4, a5, h1, h2⟩ := h; exact ⟨a1, a2, a3, a4, a5, h1, h2.keep (s1 := (s1, s2, s3)) (s2 := (s4, s5, s6)) (s3 := (s7, s8, s9)) (s4 := (s10, s11, s12)) (s5 := (s13, s14, s15)) hbx hbut⟩
    · trivial
  · intro a x v df sz kp gC hbx hvC hsto _
    obtain ⟨⟨m1, m2, m3⟩, ⟨m4, m5, m6⟩, ⟨m7, m8, m9⟩, ⟨m10, m11, m12⟩, ⟨m13, m14, m15⟩, hv1, hv2⟩ := hvC
    subst hv1
    have kp2 : ∀ j, (j < 128 ∨ 137 ≤ j) → a.tmps[j]? = (u0 :: u1 :: u2 :: u3 :: u4 :: u5 :: u6 :: u7 :: u8 :: rv :: u10 :: u11 :: u12 :: u13 :: u14 :: u15 :: u16 :: u17 :: .pointer (some ⟨bb, 0, none⟩) :: u19 :: .int .i64 (k : Int) :: u21 :: u22 :: u23 :: u24 :: u25 :: u26 :: u27 :: u28 :: u29 :: u30 :: u31 :: u32 :: u33 :: u34 :: u35 :: u36 :: u37 :: u38 :: u39 :: u40 :: u41 :: u42 :: u43 :: u44 :: u45 :: u46 :: u47 :: u48 :: u49 :: u50 :: u51 :: u52 :: u53 :: u54 :: u55 :: u56 :: u57 :: u58 :: u59 :: u60 :: u61 :: u62 :: u63 :: u64 :: u65 :: u66 :: u67 :: u68 :: u69 :: u70 :: u71 :: u72 :: u73 :: u74 :: u75 :: u76 :: u77 :: u78 :: u79 :: u80 :: u81 :: u82 :: u83 :: u84 :: u85 :: u86 :: u87 :: u88 :: u89 :: u90 :: u91 :: u92 :: u93 :: u94 :: u95 :: u96 :: u97 :: u98 :: u99 :: u100 :: u101 :: u102 :: u103 :: u104 :: u105 :: u106 :: u107 :: u108 :: u109 :: u110 :: u111 :: u112 :: u113 :: u114 :: u115 :: u116 :: u117 :: u118 :: u119 :: u120 :: u121 :: u122 :: u123 :: u124 :: u125 :: u126 :: u127 :: u128 :: u129 :: u130 :: u131 :: u132 :: u133 :: u134 :: u135 :: u136 :: u137 :: u138 :: u139 :: u140 :: u141 :: u142 :: u143 :: u144 :: u145 :: u146 :: u147 :: u148 :: u149 :: u150 :: u151 :: u152 :: u153 :: u154 :: u155 :: u156 :: u157 :: u158 :: u159 :: u160 :: u161 :: u162 :: u163 :: u164 :: u165 :: u166 :: u167 :: u168 :: u169 :: u170 :: u171 :: u172 :: u173 :: u174 :: u175 :: u176 :: u177 :: u178 :: u179 :: u180 :: u181 :: u182 :: u183 :: u184 :: u185 :: u186 :: u187 :: u188 :: u189 :: u190 :: u191 :: u192 :: u193 :: [])[j]? := fun j hj => (kp j (fun i hi h => by have := (by decide : ∀ i, i < 10 → 128 ≤ [129, 130, 131, 132, 133, 134, 128, 135, 136, 135].getD i 0 ∧ [129, 130, 131, 132, 133, 134, 128, 135, 136, 135].getD i 0 < 137) i hi; omega)).trans List.getElem?_toArray
    obtain ⟨mid, hmid, rfl⟩ := Rg.frame_mid (bl := (u0 :: u1 :: u2 :: u3 :: u4 :: u5 :: u6 :: u7 :: u8 :: rv :: u10 :: u11 :: u12 :: u13 :: u14 :: u15 :: u16 :: u17 :: .pointer (some ⟨bb, 0, none⟩) :: u19 :: .int .i64 (k : Int) :: u21 :: u22 :: u23 :: u24 :: u25 :: u26 :: u27 :: u28 :: u29 :: u30 :: u31 :: u32 :: u33 :: u34 :: u35 :: u36 :: u37 :: u38 :: u39 :: u40 :: u41 :: u42 :: u43 :: u44 :: u45 :: u46 :: u47 :: u48 :: u49 :: u50 :: u51 :: u52 :: u53 :: u54 :: u55 :: u56 :: u57 :: u58 :: u59 :: u60 :: u61 :: u62 :: u63 :: u64 :: u65 :: u66 :: u67 :: u68 :: u69 :: u70 :: u71 :: u72 :: u73 :: u74 :: u75 :: u76 :: u77 :: u78 :: u79 :: u80 :: u81 :: u82 :: u83 :: u84 :: u85 :: u86 :: u87 :: u88 :: u89 :: u90 :: u91 :: u92 :: u93 :: u94 :: u95 :: u96 :: u97 :: u98 :: u99 :: u100 :: u101 :: u102 :: u103 :: u104 :: u105 :: u106 :: u107 :: u108 :: u109 :: u110 :: u111 :: u112 :: u113 :: u114 :: u115 :: u116 :: u117 :: u118 :: u119 :: u120 :: u121 :: u122 :: u123 :: u124 :: u125 :: u126 :: u127 :: u128 :: u129 :: u130 :: u131 :: u132 :: u133 :: u134 :: u135 :: u136 :: u137 :: u138 :: u139 :: u140 :: u141 :: u142 :: u143 :: u144 :: u145 :: u146 :: u147 :: u148 :: u149 :: u150 :: u151 :: u152 :: u153 :: u154 :: u155 :: u156 :: u157 :: u158 :: u159 :: u160 :: u161 :: u162 :: u163 :: u164 :: u165 :: u166 :: u167 :: u168 :: u169 :: u170 :: u171 :: u172 :: u173 :: u174 :: u175 :: u176 :: u177 :: u178 :: u179 :: u180 :: u181 :: u182 :: u183 :: u184 :: u185 :: u186 :: u187 :: u188 :: u189 :: u190 :: u191 :: u192 :: u193 :: [])) 128 9 df sz (by simp) kp2
    match mid, hmid with
    | [v128, v129, v130, v131, v132, v133, v134, v135, v136], _ => exact HQ.out x _ _ _ _ _ _ _ _ _ m1 m2 m3 m4 m5 m6 m7 m8 m9 m10 m11 m12 m13 m14 m15 hbx hv2 hsto
def ord26V (k : Nat) (rv : Value) (p : Addr) (z : XAd) (a_ : Ad) (b : Br) (s1 : Option Addr) (s2 s3 : Nat) (s4 : Option Addr) (s5 s6 : Nat) (s7 : Option Addr) (s8 s9 : Nat) (s10 : Option Addr) (s11 s12 : Nat) (s13 : Option Addr) (s14 s15 : Nat) (i : Nat) (v : Value) (x : World) : Prop :=
  match i with
  | 0 => v = brv b.me (s1, s2, s3) (s4, s5, s6) (s7, s8, s9) (s10, s11, s12) (s13, s14, s15)
  | 1 => v = rv
  | 2 => v = .int .i64 (k : Int)
  | 3 => v = .pointer (some p)
  | 4 => v = valD z
  | 5 => ∃ nv av sv ev ov : Sl, v = .tuple #[brv (learnB b a_).1.me nv av sv ev ov, .bool (learnB b a_).2] ∧ BrN x (learnB b a_).1 nv av sv ev ov
  | 6 => ∃ nv av sv ev ov : Sl, v = .tuple #[brv (learnB b a_).1.me nv av sv ev ov, .bool (learnB b a_).2] ∧ BrN x (learnB b a_).1 nv av sv ev ov
  | 7 => ∃ nv av sv ev ov : Sl, v = brv (learnB b a_).1.me nv av sv ev ov ∧ BrN x (learnB b a_).1 nv av sv ev ov
  | 8 => True
  | _ => True
noncomputable def ord26C : Code := ((Tryz.f5.body.bind (findRegion 26)).getD .skip)
set_option maxRecDepth 100000 in
set_option maxHeartbeats 8000000 in
theorem ord26 (Q : Exit → Act → World → Prop) (W : World) (bb k : Nat) (rv : Value) (p : Addr) (z : XAd) (a_ : Ad) (b : Br) (s1 : Option Addr) (s2 s3 : Nat) (s4 : Option Addr) (s5 s6 : Nat) (s7 : Option Addr) (s8 s9 : Nat) (s10 : Option Addr) (s11 s12 : Nat) (s13 : Option Addr) (s14 s15 : Nat) (u0 u1 u2 u3 u4 u5 u6 u7 u8 u9 u10 u11 u12 u14 u15 u16 u17 u18 u21 u22 u23 u24 u25 u26 u27 u28 u29 u30 u31 u32 u33 u34 u35 u36 u37 u38 u39 u40 u41 u42 u43 u44 u45 u46 u47 u48 u49 u50 u51 u52 u53 u54 u55 u56 u57 u58 u59 u60 u61 u62 u63 u64 u65 u66 u67 u68 u69 u70 u71 u72 u73 u74 u75 u76 u77 u78 u79 u80 u81 u82 u83 u84 u85 u86 u87 u88 u89 u90 u91 u92 u93 u94 u95 u96 u97 u98 u99 u100 u101 u102 u103 u104 u105 u106 u107 u108 u109 u110 u111 u112 u113 u114 u115 u116 u117 u118 u119 u120 u121 u122 u123 u124 u125 u126 u127 u128 u129 u130 u131 u132 u133 u134 u135 u136 u137 u138 u139 u140 u141 u142 u143 u144 u145 u146 u147 u148 u149 u150 u151 u152 u153 u154 u155 u156 u157 u158 u159 u160 u161 u162 u163 u164 u165 u166 u167 u168 u169 u170 u171 u172 u173 u174 u175 u176 u177 u178 u179 u180 u181 u182 u183 u184 u185 u186 u187 u188 u189 u190 u191 u192 u193 : Value)
    (hbox : Box W bb #[.int .i64 b.me, .slice s1 s2 s3, .slice s4 s5 s6, .slice s7 s8 s9, .slice s10 s11 s12, .slice s13 s14 s15] 29) (bn : BrN W b (s1, s2, s3) (s4, s5, s6) (s7, s8, s9) (s10, s11, s12) (s13, s14, s15)) (ix : ∀ w, (Instr.indexAt 24 rv (.int .i64 (k : Int))).run Tryz.prog w = .ok (.pointer (some p)) w) (px : ∀ x, Below W.heap.size W x → ∀ j u, (cellsD z)[j]? = some u → x.cell? (p.add j) = some u) (ai : AdIn W z a_) (fw : Few b) (fp : FewP b) (pl : a_.p.length ≤ 900) (rs : RiseI b.seen) (ra : RiseA b.adv)
    (hQ : ∀ (x : World) (v137 v138 v139 v140 v141 v142 v143 v144 v145 : Value) (m1 : Option Addr) (m2 m3 : Nat) (m4 : Option Addr) (m5 m6 : Nat) (m7 : Option Addr) (m8 m9 : Nat) (m10 : Option Addr) (m11 m12 : Nat) (m13 : Option Addr) (m14 m15 : Nat), Box x bb #[.int .i64 (learnB b a_).1.me, .slice m1 m2 m3, .slice m4 m5 m6, .slice m7 m8 m9, .slice m10 m11 m12, .slice m13 m14 m15] 29 → BrN x (learnB b a_).1 (m1, m2, m3) (m4, m5, m6) (m7, m8, m9) (m10, m11, m12) (m13, m14, m15) → Rg.Sto bb W x → Q .normal ⟨(u0 :: u1 :: u2 :: u3 :: u4 :: u5 :: u6 :: u7 :: u8 :: u9 :: u10 :: u11 :: u12 :: rv :: u14 :: u15 :: u16 :: u17 :: u18 :: .pointer (some ⟨bb, 0, none⟩) :: .int .i64 (k : Int) :: u21 :: u22 :: u23 :: u24 :: u25 :: u26 :: u27 :: u28 :: u29 :: u30 :: u31 :: u32 :: u33 :: u34 :: u35 :: u36 :: u37 :: u38 :: u39 :: u40 :: u41 :: u42 :: u43 :: u44 :: u45 :: u46 :: u47 :: u48 :: u49 :: u50 :: u51 :: u52 :: u53 :: u54 :: u55 :: u56 :: u57 :: u58 :: u59 :: u60 :: u61 :: u62 :: u63 :: u64 :: u65 :: u66 :: u67 :: u68 :: u69 :: u70 :: u71 :: u72 :: u73 :: u74 :: u75 :: u76 :: u77 :: u78 :: u79 :: u80 :: u81 :: u82 :: u83 :: u84 :: u85 :: u86 :: u87 :: u88 :: u89 :: u90 :: u91 :: u92 :: u93 :: u94 :: u95 :: u96 :: u97 :: u98 :: u99 :: u100 :: u101 :: u102 :: u103 :: u104 :: u105 :: u106 :: u107 :: u108 :: u109 :: u110 :: u111 :: u112 :: u113 :: u114 :: u115 :: u116 :: u117 :: u118 :: u119 :: u120 :: u121 :: u122 :: u123 :: u124 :: u125 :: u126 :: u127 :: u128 :: u129 :: u130 :: u131 :: u132 :: u133 :: u134 :: u135 :: u136 :: v137 :: v138 :: v139 :: v140 :: v141 :: v142 :: v143 :: v144 :: v145 :: u146 :: u147 :: u148 :: u149 :: u150 :: u151 :: u152 :: u153 :: u154 :: u155 :: u156 :: u157 :: u158 :: u159 :: u160 :: u161 :: u162 :: u163 :: u164 :: u165 :: u166 :: u167 :: u168 :: u169 :: u170 :: u171 :: u172 :: u173 :: u174 :: u175 :: u176 :: u177 :: u178 :: u179 :: u180 :: u181 :: u182 :: u183 :: u184 :: u185 :: u186 :: u187 :: u188 :: u189 :: u190 :: u191 :: u192 :: u193 :: []).toArray, []⟩ x) :
    Code.wp Tryz.prog ord26C Q ⟨(u0 :: u1 :: u2 :: u3 :: u4 :: u5 :: u6 :: u7 :: u8 :: u9 :: u10 :: u11 :: u12 :: rv :: u14 :: u15 :: u16 :: u17 :: u18 :: .pointer (some ⟨bb, 0, none⟩) :: .int .i64 (k : Int) :: u21 :: u22 :: u23 :: u24 :: u25 :: u26 :: u27 :: u28 :: u29 :: u30 :: u31 :: u32 :: u33 :: u34 :: u35 :: u36 :: u37 :: u38 :: u39 :: u40 :: u41 :: u42 :: u43 :: u44 :: u45 :: u46 :: u47 :: u48 :: u49 :: u50 :: u51 :: u52 :: u53 :: u54 :: u55 :: u56 :: u57 :: u58 :: u59 :: u60 :: u61 :: u62 :: u63 :: u64 :: u65 :: u66 :: u67 :: u68 :: u69 :: u70 :: u71 :: u72 :: u73 :: u74 :: u75 :: u76 :: u77 :: u78 :: u79 :: u80 :: u81 :: u82 :: u83 :: u84 :: u85 :: u86 :: u87 :: u88 :: u89 :: u90 :: u91 :: u92 :: u93 :: u94 :: u95 :: u96 :: u97 :: u98 :: u99 :: u100 :: u101 :: u102 :: u103 :: u104 :: u105 :: u106 :: u107 :: u108 :: u109 :: u110 :: u111 :: u112 :: u113 :: u114 :: u115 :: u116 :: u117 :: u118 :: u119 :: u120 :: u121 :: u122 :: u123 :: u124 :: u125 :: u126 :: u127 :: u128 :: u129 :: u130 :: u131 :: u132 :: u133 :: u134 :: u135 :: u136 :: u137 :: u138 :: u139 :: u140 :: u141 :: u142 :: u143 :: u144 :: u145 :: u146 :: u147 :: u148 :: u149 :: u150 :: u151 :: u152 :: u153 :: u154 :: u155 :: u156 :: u157 :: u158 :: u159 :: u160 :: u161 :: u162 :: u163 :: u164 :: u165 :: u166 :: u167 :: u168 :: u169 :: u170 :: u171 :: u172 :: u173 :: u174 :: u175 :: u176 :: u177 :: u178 :: u179 :: u180 :: u181 :: u182 :: u183 :: u184 :: u185 :: u186 :: u187 :: u188 :: u189 :: u190 :: u191 :: u192 :: u193 :: []).toArray, []⟩ W := by
  have HQ := Lib.hid hQ
  have HB := Lib.hid hbox
  have BN := Lib.hid bn
  have IX := Lib.hid ix
  have PX := Lib.hid px
  have AI := Lib.hid ai
  have FW := Lib.hid fw
  have FP := Lib.hid fp
  have PLN := Lib.hid pl
  have RS_ := Lib.hid rs
  have RA := Lib.hid ra
  clear hQ hbox bn ix px ai fw fp pl rs ra
  unfold ord26C
  conv => arg 2; whnf
  have nb19 : ∀ i, i < 10 → [138, 139, 140, 141, 142, 143, 137, 144, 145, 144].getD i 0 ≠ 19 := by decide
  have nb13 : ∀ i, i < 10 → [138, 139, 140, 141, 142, 143, 137, 144, 145, 144].getD i 0 ≠ 13 := by decide
  have nb20 : ∀ i, i < 10 → [138, 139, 140, 141, 142, 143, 137, 144, 145, 144].getD i 0 ≠ 20 := by decide
  refine Rg.region_st 10 9 7 (fun i => [138, 139, 140, 141, 142, 143, 137, 144, 145, 144].getD i 0) (fun _ => 10) (ord26V k rv p z a_ b s1 s2 s3 s4 s5 s6 s7 s8 s9 s10 s11 s12 s13 s14 s15) (fun i => i == 8) 29 bb #[.int .i64 b.me, .slice s1 s2 s3, .slice s4 s5 s6, .slice s7 s8 s9, .slice s10 s11 s12, .slice s13 s14 s15] (fun v => match v with | .agg c => c | _ => #[]) (by kernel_rfl) (by kernel_rfl) rfl (by decide) (by decide) (by decide) (by decide) HB.out (fun i j hi hj h1 h2 h => (by decide : ∀ i, i < 10 → ∀ j, j < 10 → i ≠ 9 → j ≠ 9 → [138, 139, 140, 141, 142, 143, 137, 144, 145, 144].getD i 0 = [138, 139, 140, 141, 142, 143, 137, 144, 145, 144].getD j 0 → i = j) i hi j hj h1 h2 h) (fun i hi _ => (by decide : ∀ i, i < 10 → [138, 139, 140, 141, 142, 143, 137, 144, 145, 144].getD i 0 < 194) i hi) ?_ ?_ (by decide) ?_ ?_ (fun j _ _ => Or.inl (by decide)) ?_
  · intro i v x x' hi h hb
    by_cases hi9 : i < 9
    · rcases (by omega : i = 0 ∨ i = 1 ∨ i = 2 ∨ i = 3 ∨ i = 4 ∨ i = 5 ∨ i = 6 ∨ i = 7 ∨ i = 8) with rfl | rfl | rfl | rfl | rfl | rfl | rfl | rfl | rfl
      · exact h
      · exact h
      · exact h
      · exact h
      · exact h
      · obtain ⟨a1, a2, a3, a4, a5, h1, h2⟩ := h; exact ⟨a1, a2, a3, a4, a5, h1, h2.on hb⟩
      · obtain ⟨a1, a2, a3, a4, a5, h1, h2⟩ := h; exact ⟨a1, a2, a3, a4, a5, h1, h2.on hb⟩
      · obtain ⟨a1, a2, a3, a4, a5, h1, h2⟩ := h; exact ⟨a1, a2, a3, a4, a5, h1, h2.on hb⟩
      · exact h
    · obtain rfl : i = 9 := by omega
      trivial
  · intro o ho i hi hi9 hfi
    obtain rfl := Option.some.inj ho
    have h8 : i ≠ 8 := fun e => by rw [e] at hfi; simp at hfi
    rcases (by omega : i = 0 ∨ i = 1 ∨ i = 2 ∨ i = 3 ∨ i = 4 ∨ i = 5 ∨ i = 6 ∨ i = 7) with rfl | rfl | rfl | rfl | rfl | rfl | rfl | rfl
    · exact ⟨⟨0, .phase⟩, by simp, rfl, rfl⟩
    · exact ⟨⟨1, .phase⟩, by simp, rfl, rfl⟩
    · exact ⟨⟨2, .phase⟩, by simp, rfl, rfl⟩
    · exact ⟨⟨3, .phase⟩, by simp, rfl, rfl⟩
    · exact ⟨⟨4, .phase⟩, by simp, rfl, rfl⟩
    · exact ⟨⟨5, .chain⟩, by simp, rfl, rfl⟩
    · exact ⟨⟨6, .phase⟩, by simp, rfl, rfl⟩
    · exact ⟨⟨7, .data⟩, by simp, rfl, rfl⟩
  · intro i o hi hi9 ho a x hpre seen K hK
    clear HQ
    rcases (by omega : i = 0 ∨ i = 1 ∨ i = 2 ∨ i = 3 ∨ i = 4 ∨ i = 5 ∨ i = 6 ∨ i = 7 ∨ i = 8) with rfl | rfl | rfl | rfl | rfl | rfl | rfl | rfl | rfl
    · obtain rfl := Option.some.inj ho
      obtain ⟨hb, hbx⟩ := hpre rfl
      have e19 : a.eval (.tmp 19) = .pointer (some ⟨bb, 0, none⟩) := seen.kp 19 _ nb19 rfl
      exact Rg.op_value rfl rfl (Rg.ex_load a.eval _ 29 (.tmp 19) rfl (by rw [e19]; exact loadBr hbx)) (hK _ x rfl (Below.refl _ _))
    · obtain rfl := Option.some.inj ho
      obtain ⟨hb, hbx⟩ := hpre rfl
      have e13 : a.eval (.tmp 13) = rv := seen.kp 13 _ nb13 rfl
      exact Rg.op_value rfl rfl (Rg.ex_move a.eval _ (.tmp 13) rfl x) (hK _ x e13 (Below.refl _ _))
    · obtain rfl := Option.some.inj ho
      obtain ⟨hb, hbx⟩ := hpre rfl
      have e20 : a.eval (.tmp 20) = .int .i64 (k : Int) := seen.kp 20 _ nb20 rfl
      exact Rg.op_value rfl rfl (Rg.ex_move a.eval _ (.tmp 20) rfl x) (hK _ x e20 (Below.refl _ _))
    · obtain rfl := Option.some.inj ho
      obtain ⟨hb, hbx⟩ := hpre rfl
      have e139 : a.eval (.tmp 139) = rv := seen.at_ ⟨1, .data⟩ (by simp) rfl (by decide) (Or.inr (by decide))
      have e140 : a.eval (.tmp 140) = .int .i64 (k : Int) := seen.at_ ⟨2, .data⟩ (by simp) rfl (by decide) (Or.inr (by decide))
      exact Rg.op_value rfl rfl (Rg.ex_index a.eval _ 24 (.tmp 139) (.tmp 140) rfl (by rw [e139, e140]; exact IX.out x)) (hK _ x rfl (Below.refl _ _))
    · obtain rfl := Option.some.inj ho
      obtain ⟨hb, hbx⟩ := hpre rfl
      have e141 : a.eval (.tmp 141) = .pointer (some p) := seen.at_ ⟨3, .data⟩ (by simp) rfl (by decide) (Or.inr (by decide))
      exact Rg.op_value rfl rfl (Rg.ex_load a.eval _ 42 (.tmp 141) rfl (by rw [e141]; exact loadD x p z (PX.out x hb))) (hK _ x rfl (Below.refl _ _))
    · obtain rfl := Option.some.inj ho
      obtain ⟨hb, hbx⟩ := hpre rfl
      have e138 : a.eval (.tmp 138) = brv b.me (s1, s2, s3) (s4, s5, s6) (s7, s8, s9) (s10, s11, s12) (s13, s14, s15) := seen.at_ ⟨0, .data⟩ (by simp) rfl (by decide) (Or.inr (by decide))
      have e142 : a.eval (.tmp 142) = valD z := seen.at_ ⟨4, .data⟩ (by simp) rfl (by decide) (Or.inr (by decide))
      exact Rg.op_call rfl rfl (Rw.ex_call2 a.eval _ (.tmp 138) (.tmp 142) 29 42 10 rfl e138 e142 rfl _ (call_fn Tryz.func10 rfl rfl _ _)) (learn_any b a_ (s1, s2, s3) (s4, s5, s6) (s7, s8, s9) (s10, s11, s12) (s13, s14, s15) z x (BN.out.on hb).br (AI.out.on hb) FW.out FP.out PLN.out RS_.out RA.out) fun e w1 h => by
        obtain ⟨⟨a1, a2, a3, a4, a5, rfl, h2, h3⟩, h5⟩ := h
        exact ⟨_, rfl, hK _ _ ⟨a1, a2, a3, a4, a5, rfl, h2, h3 (BN.out.on hb).no⟩ h5⟩
    · obtain rfl := Option.some.inj ho
      obtain ⟨hb, hbx⟩ := hpre rfl
      have E := seen.at_ ⟨5, .data⟩ (by simp) rfl (by decide) (Or.inr (by decide))
      exact Rg.op_value rfl rfl (Rg.ex_move a.eval _ (.tmp 143) rfl x) (hK _ x E (Below.refl _ _))
    · obtain rfl := Option.some.inj ho
      obtain ⟨hb, hbx⟩ := hpre rfl
      have E := seen.at_ ⟨6, .data⟩ (by simp) rfl (by decide) (Or.inr (by decide))
      obtain ⟨a1, a2, a3, a4, a5, h1, h2⟩ := E
      exact Rg.op_value rfl rfl (ex_extract a.eval _ (.tmp 137) 0 rfl h1 rfl x) (hK _ x ⟨a1, a2, a3, a4, a5, rfl, h2⟩ (Below.refl _ _))
    · obtain rfl := Option.some.inj ho
      have E := seen.at_ ⟨6, .data⟩ (by simp) rfl (by decide) (Or.inr (by decide))
      obtain ⟨a1, a2, a3, a4, a5, h1, h2⟩ := E
      exact Rg.op_value rfl rfl (ex_extract a.eval _ (.tmp 137) 1 rfl h1 rfl x) (hK _ x trivial (Below.refl _ _))
  · intro o ho a x v hb hbx hC hvC hbase K hK
    clear HQ
    obtain rfl := Option.some.inj ho
    obtain ⟨⟨m1, m2, m3⟩, ⟨m4, m5, m6⟩, ⟨m7, m8, m9⟩, ⟨m10, m11, m12⟩, ⟨m13, m14, m15⟩, hv1, hv2⟩ := hvC
    subst hv1
    have hbut := but_setB x bb (.int .i64 (learnB b a_).1.me) (.slice m1 m2 m3) (.slice m4 m5 m6) (.slice m7 m8 m9) (.slice m10 m11 m12) (.slice m13 m14 m15)
    have eB : a.eval (.tmp 19) = .pointer (some ⟨bb, 0, none⟩) := hbase 19 _ rfl nb19
    refine Rg.op_store 29 (.tmp 19) (.tmp 144) rfl rfl rfl rfl eB hC (w' := setB x bb (.int .i64 (learnB b a_).1.me) (.slice m1 m2 m3) (.slice m4 m5 m6) (.slice m7 m8 m9) (.slice m10 m11 m12) (.slice m13 m14 m15)) (storeBr hbx _ _ _ _ _ _ _ _ _ _ _ _ _ _ _ _) (hK _ hbut (fun B w hB h => setB_below h hB _ _ _ _ _ _) (setB_box hbx _ _ _ _ _ _) ?_)
    intro j u hj hj9 _ h
    rcases (by omega : j = 0 ∨ j = 1 ∨ j = 2 ∨ j = 3 ∨ j = 4 ∨ j = 5 ∨ j = 6 ∨ j = 7 ∨ j = 8) with rfl | rfl | rfl | rfl | rfl | rfl | rfl | rfl | rfl
    · have h2 : u = brv b.me (s1, s2, s3) (s4, s5, s6) (s7, s8, s9) (s10, s11, s12) (s13, s14, s15) := h; exact h2
    · have h2 : u = rv := h; exact h2
    · have h2 : u = .int .i64 (k : Int) := h; exact h2
    · have h2 : u = .pointer (some p) := h; exact h2
    · have h2 : u = valD z := h; exact h2
    · obtain ⟨a1, a2, a3, a4, a5, h1, h2⟩ := h; exact ⟨a1, a2, a3, a4, a5, h1, h2.keep (s1 := (s1, s2, s3)) (s2 := (s4, s5, s6)) (s3 := (s7, s8, s9)) (s4 := (s10, s11, s12)) (s5 := (s13, s14, s15)) hbx hbut⟩
    · obtain ⟨a1, a2, a3, a4, a5, h1, h2⟩ := h; exact ⟨a1, a2, a3, a4, a5, h1, h2.keep (s1 := (s1, s2, s3)) (s2 := (s4, s5, s6)) (s3 := (s7, s8, s9)) (s4 := (s10, s11, s12)) (s5 := (s13, s14, s15)) hbx hbut⟩
    · obtain ⟨a1, a2, a3, a4, a5, h1, h2⟩ := h; exact ⟨a1, a2, a3, a4, a5, h1, h2.keep (s1 := (s1, s2, s3)) (s2 := (s4, s5, s6)) (s3 := (s7, s8, s9)) (s4 := (s10, s11, s12)) (s5 := (s13, s14, s15)) hbx hbut⟩
    · trivial
  · intro a x v df sz kp gC hbx hvC hsto _
    obtain ⟨⟨m1, m2, m3⟩, ⟨m4, m5, m6⟩, ⟨m7, m8, m9⟩, ⟨m10, m11, m12⟩, ⟨m13, m14, m15⟩, hv1, hv2⟩ := hvC
    subst hv1
    have kp2 : ∀ j, (j < 137 ∨ 146 ≤ j) → a.tmps[j]? = (u0 :: u1 :: u2 :: u3 :: u4 :: u5 :: u6 :: u7 :: u8 :: u9 :: u10 :: u11 :: u12 :: rv :: u14 :: u15 :: u16 :: u17 :: u18 :: .pointer (some ⟨bb, 0, none⟩) :: .int .i64 (k : Int) :: u21 :: u22 :: u23 :: u24 :: u25 :: u26 :: u27 :: u28 :: u29 :: u30 :: u31 :: u32 :: u33 :: u34 :: u35 :: u36 :: u37 :: u38 :: u39 :: u40 :: u41 :: u42 :: u43 :: u44 :: u45 :: u46 :: u47 :: u48 :: u49 :: u50 :: u51 :: u52 :: u53 :: u54 :: u55 :: u56 :: u57 :: u58 :: u59 :: u60 :: u61 :: u62 :: u63 :: u64 :: u65 :: u66 :: u67 :: u68 :: u69 :: u70 :: u71 :: u72 :: u73 :: u74 :: u75 :: u76 :: u77 :: u78 :: u79 :: u80 :: u81 :: u82 :: u83 :: u84 :: u85 :: u86 :: u87 :: u88 :: u89 :: u90 :: u91 :: u92 :: u93 :: u94 :: u95 :: u96 :: u97 :: u98 :: u99 :: u100 :: u101 :: u102 :: u103 :: u104 :: u105 :: u106 :: u107 :: u108 :: u109 :: u110 :: u111 :: u112 :: u113 :: u114 :: u115 :: u116 :: u117 :: u118 :: u119 :: u120 :: u121 :: u122 :: u123 :: u124 :: u125 :: u126 :: u127 :: u128 :: u129 :: u130 :: u131 :: u132 :: u133 :: u134 :: u135 :: u136 :: u137 :: u138 :: u139 :: u140 :: u141 :: u142 :: u143 :: u144 :: u145 :: u146 :: u147 :: u148 :: u149 :: u150 :: u151 :: u152 :: u153 :: u154 :: u155 :: u156 :: u157 :: u158 :: u159 :: u160 :: u161 :: u162 :: u163 :: u164 :: u165 :: u166 :: u167 :: u168 :: u169 :: u170 :: u171 :: u172 :: u173 :: u174 :: u175 :: u176 :: u177 :: u178 :: u179 :: u180 :: u181 :: u182 :: u183 :: u184 :: u185 :: u186 :: u187 :: u188 :: u189 :: u190 :: u191 :: u192 :: u193 :: [])[j]? := fun j hj => (kp j (fun i hi h => by have := (by decide : ∀ i, i < 10 → 137 ≤ [138, 139, 140, 141, 142, 143, 137, 144, 145, 144].getD i 0 ∧ [138, 139, 140, 141, 142, 143, 137, 144, 145, 144].getD i 0 < 146) i hi; omega)).trans List.getElem?_toArray
    obtain ⟨mid, hmid, rfl⟩ := Rg.frame_mid (bl := (u0 :: u1 :: u2 :: u3 :: u4 :: u5 :: u6 :: u7 :: u8 :: u9 :: u10 :: u11 :: u12 :: rv :: u14 :: u15 :: u16 :: u17 :: u18 :: .pointer (some ⟨bb, 0, none⟩) :: .int .i64 (k : Int) :: u21 :: u22 :: u23 :: u24 :: u25 :: u26 :: u27 :: u28 :: u29 :: u30 :: u31 :: u32 :: u33 :: u34 :: u35 :: u36 :: u37 :: u38 :: u39 :: u40 :: u41 :: u42 :: u43 :: u44 :: u45 :: u46 :: u47 :: u48 :: u49 :: u50 :: u51 :: u52 :: u53 :: u54 :: u55 :: u56 :: u57 :: u58 :: u59 :: u60 :: u61 :: u62 :: u63 :: u64 :: u65 :: u66 :: u67 :: u68 :: u69 :: u70 :: u71 :: u72 :: u73 :: u74 :: u75 :: u76 :: u77 :: u78 :: u79 :: u80 :: u81 :: u82 :: u83 :: u84 :: u85 :: u86 :: u87 :: u88 :: u89 :: u90 :: u91 :: u92 :: u93 :: u94 :: u95 :: u96 :: u97 :: u98 :: u99 :: u100 :: u101 :: u102 :: u103 :: u104 :: u105 :: u106 :: u107 :: u108 :: u109 :: u110 :: u111 :: u112 :: u113 :: u114 :: u115 :: u116 :: u117 :: u118 :: u119 :: u120 :: u121 :: u122 :: u123 :: u124 :: u125 :: u126 :: u127 :: u128 :: u129 :: u130 :: u131 :: u132 :: u133 :: u134 :: u135 :: u136 :: u137 :: u138 :: u139 :: u140 :: u141 :: u142 :: u143 :: u144 :: u145 :: u146 :: u147 :: u148 :: u149 :: u150 :: u151 :: u152 :: u153 :: u154 :: u155 :: u156 :: u157 :: u158 :: u159 :: u160 :: u161 :: u162 :: u163 :: u164 :: u165 :: u166 :: u167 :: u168 :: u169 :: u170 :: u171 :: u172 :: u173 :: u174 :: u175 :: u176 :: u177 :: u178 :: u179 :: u180 :: u181 :: u182 :: u183 :: u184 :: u185 :: u186 :: u187 :: u188 :: u189 :: u190 :: u191 :: u192 :: u193 :: [])) 137 9 df sz (by simp) kp2
    match mid, hmid with
    | [v137, v138, v139, v140, v141, v142, v143, v144, v145], _ => exact HQ.out x _ _ _ _ _ _ _ _ _ m1 m2 m3 m4 m5 m6 m7 m8 m9 m10 m11 m12 m13 m14 m15 hbx hv2 hsto
end Go.Proofs.YtonoadjmglkhaaaGreat.Av
