/-
  steps of package graph: who is found, breadth first. Conditions: all links are between brokers; at most 1000 of these; the map of neighbours as it was made.
  steps of package graph: the search itself. Conditions: all links are between brokers; at most 800 of these; the map of neighbours as it was made.
  steps of package graph: who can be reached, and over how many links. Conditions: all links are between brokers, none is there twice; at most 800 brokers, 400 links.
  Far of package graph: over how many links. Conditions: all links are between brokers, none is there twice; at most 800 brokers, 400 links.
-/
import Derived.Test.YtbnfndcbhnjnaaaDoorGdSt0
import Derived.Test.YtbnfndcbhnjnaaaDoorGdWays
namespace Go.Proofs.YtbnfndcbhnjnaaaDoor.Gr
open Go.RowKit Go.Sort Go.Proofs.YtbnfndcbhnjnaaaDoor Go.Proofs.YtbnfndcbhnjnaaaDoor.Rw

def fD (D : Int → Option Nat) : Int → Option Value := fun k => (D k).map fun d => .int .i64 d
theorem zeroN (w : World) : (zeroValue 3).run Tryd.prog w = .ok (.int .i64 0) w := by kernel_rfl
/-- What the queue says. -/
def OutP (ls : List Lk) (a : Int) (D : Int → Option Nat) : List Int → Prop
  | [] => Found ls a D
  | h :: t => Mid ls a D h t []
/-- What is in memory while it is being looked for. -/
structure Bf (W : World) (n : Int) (B fb : Nat) (D : Int → Option Nat) (s : Nat) (v : Value) (q : List Int) : Prop where
  map : MapF W fb (fD D) s
  row : QI W B v q
  lo : B ≤ fb
  cnt : s + left D n.toNat = n.toNat
  max : ∀ x d, D x = some d → d + 1 ≤ s
  rng : ∀ x d, D x = some d → 0 ≤ x ∧ x < n
  sml : q.length ≤ s
theorem fD_upd (D : Int → Option Nat) (x : Int) (d : Nat) : updF (fD D) x (.int .i64 d) = fD (updD D x d) := by
  funext k
  unfold updF fD updD
  by_cases e : k = x <;> simp [e]
theorem Bf.drop {W : World} {n : Int} {B fb : Nat} {D : Int → Option Nat} {s : Nat} {v v' : Value} {q q' : List Int} (h : Bf W n B fb D s v q) (hq : QI W B v' q') (hl : q'.length ≤ q.length) : Bf W n B fb D s v' q' :=
  ⟨h.map, hq, h.lo, h.cnt, h.max, h.rng, Nat.le_trans hl h.sml⟩
set_option maxRecDepth 100000 in
/-- One more is found: what its steps run. -/
theorem Bf.push {W : World} {n : Int} {B fb : Nat} {D : Int → Option Nat} {s : Nat} {v : Value} {q : List Int} (h : Bf W n B fb D s v q) (x : Int) (d : Nat) (hx : D x = none) (hr : 0 ≤ x ∧ x < n) (hd : d ≤ s) (hn : n ≤ 800) (hB : B ≤ W.heap.size) :
    ∃ w1 w2 g off m cap, (Instr.mapUpdate 57 (.map (some fb)) (.int .i64 x) (.int .i64 (d : Int))).run Tryd.prog W = .ok () w1 ∧
      (Builtin.append_ #[30, 30] 30 #[v, .slice (some ⟨w1.heap.size, 0, none⟩) 1 1]).run Tryd.prog (w1.alloc (.cells #[.int .i64 x] 3)) = .ok (.slice (some ⟨g, off, none⟩) m cap) w2 ∧
      Bf w2 n B fb (updD D x d) (s + 1) (.slice (some ⟨g, off, none⟩) m cap) (q ++ [x]) ∧ Below B W w2 := by
  have hs : s ≤ 800 := by have := h.cnt; omega
  have hxk : I64 x := ⟨by omega, by omega⟩
  obtain ⟨w1, r1, m1, g1⟩ := h.map.store Tryd.underlying57 hxk (.int .i64 (d : Int)) (by omega)
  have hno : (fD D x).isSome = false := by unfold fD; rw [hx]; rfl
  rw [hno, fD_upd] at m1
  have q1 := h.row.kept g1 (Or.inr (h.row.ne_mapF h.map))
  have b1 : Below B W w1 := (Below.refl B W).grown g1 hB (fun j hj => by
    obtain rfl := Option.some.inj hj
    exact h.lo)
  obtain ⟨r, w2, r2, hq, g2, _, g, off, m, cap, rfl⟩ := app_q w1 B v q x q1 (by have := h.sml; omega) (Nat.le_trans hB b1.size)
  have b2 : Below B w1 (w1.alloc (.cells #[.int .i64 x] 3)) := (Below.refl B w1).alloc (Nat.le_trans hB b1.size) _
  have m2 := (m1.on ((Below.refl _ _).alloc (Nat.le_refl _) (.cells #[.int .i64 x] 3)))
  have q2 := q1.on ((Below.refl _ _).alloc (Nat.le_refl _) (.cells #[.int .i64 x] 3))
  have m3 := m2.grown g2 (fun e => q2.ne_mapF m2 e.symm)
  have b3 := b2.grown g2 (Nat.le_trans (Nat.le_trans hB b1.size) b2.size) (fun j hj => (q2.lt j hj).1)
  have hl := left_upd (D := D) (x := x) (d := d) hx hr.1 n.toNat
  rw [if_pos (by omega)] at hl
  refine ⟨w1, w2, g, off, m, cap, r1, r2, ⟨m3, hq, h.lo, by have := h.cnt; omega, fun y e hy => ?_, fun y e hy => ?_, by have := h.sml; simp; omega⟩, b1.trans b3⟩
  · unfold updD at hy
    split at hy
    · injection hy with hy
      omega
    · have := h.max y e hy
      omega
  · unfold updD at hy
    split at hy
    · rename_i e2
      rw [e2]
      exact hr
    · exact h.rng y e hy
end Go.Proofs.YtbnfndcbhnjnaaaDoor.Gr

namespace Go.Proofs.YtbnfndcbhnjnaaaDoor.Gr
open Go.RowKit Go.Sort Go.Proofs.YtbnfndcbhnjnaaaDoor Go.Proofs.YtbnfndcbhnjnaaaDoor.Rw

theorem mid_start (ls : List Lk) (a : Int) : Mid ls a (updD (fun _ => none) a 0) a [] [] := by
  have d0 : updD (fun _ => none) a 0 a = some 0 := by unfold updD; rw [if_pos rfl]
  have dx : ∀ v d, updD (fun _ => none) a 0 v = some d → v = a ∧ d = 0 := fun v d hv => by
    unfold updD at hv
    split at hv
    · rename_i e
      injection hv with hv
      exact ⟨e, hv.symm⟩
    · cases hv
  refine ⟨d0, ?_, ?_, ?_, ?_, ?_, ?_⟩
  · intro v d hv
    obtain ⟨rfl, rfl⟩ := dx v d hv
    rfl
  · intro v hv
    obtain rfl : v = a := by simpa using hv
    exact ⟨0, d0⟩
  · simp
  · intro v d hv
    obtain ⟨rfl, rfl⟩ := dx v d hv
    omega
  · intro v d hv hq
    obtain ⟨rfl, rfl⟩ := dx v d hv
    exact absurd (List.mem_cons_self ..) hq
  · intro w hw
    cases hw
theorem QI.open_ {W : World} {B : Nat} {v : Value} {h : Int} {t : List Int} (hq : QI W B v (h :: t)) : ∃ g off cap, v = .slice (some ⟨g, off, none⟩) (t.length + 1) cap := by
  rcases hq with ⟨_, e⟩ | ⟨g, off, cap, cur, h1, _⟩
  · cases e
  · exact ⟨g, off, cap, h1⟩
theorem QI.nil_ {W : World} {B : Nat} {v : Value} (hq : QI W B v []) : ∃ ao cap, v = .slice ao 0 cap := by
  rcases hq with ⟨h1, _⟩ | ⟨g, off, cap, cur, h1, _⟩
  · exact ⟨none, 0, h1⟩
  · exact ⟨_, cap, h1⟩
noncomputable def stepsB2 : Code := ((Tryd.f28.body.bind (findBlock 2)).getD .skip)
set_option maxRecDepth 100000 in
set_option maxHeartbeats 8000000 in
theorem steps_b2 (Q : Exit → Act → World → Prop) (W1 : World) (n : Int) (ls : List Lk) (a : Int) (nb fb B0 : Nat) (S : Int → Value) (c : Nat) (r : List Lk) (u0 u1 u2 u3 u4 u6 u7 u10 u11 u12 u13 u14 u15 u16 u17 u18 u19 u20 u21 u22 u23 u24 u25 u26 u27 u28 u29 u30 u31 u32 u33 u34 u35 u36 u37 u38 u39 u40 u41 u42 u43 u44 u45 u46 u47 u48 u49 u50 u51 u52 u53 u54 u55 u56 u57 u58 u59 u60 u61 u62 u63 u64 u65 u66 u67 u68 u69 u70 u71 u72 u73 u74 u75 u76 u77 u78 u79 v9 : Value) (W : World)
    (hnm : NM W1 B0 nb S (nbL r) c) (hr : ∀ p, p ∈ r ↔ Adj ls p.1 p.2) (hok : Lok n ls) (hn : n ≤ 800) (ha : 0 ≤ a ∧ a < n) (hrl : r.length ≤ 800)
    (hb : Below W1.heap.size W1 W) (hbf : Bf W n W1.heap.size fb (updD (fun _ => none) a 0) 1 v9 [a])
    (hQ : ∀ (w' : World) (D : Int → Option Nat) (s : Nat) (v9 v10 v11 v12 v13 v14 v44 v45 v46 v47 v48 v49 v50 v51 v52 v53 v54 v55 v56 v57 v58 v59 v60 v61 v62 v63 v64 v65 v66 v67 v68 v69 v70 v71 v72 v73 v74 v75 v76 v77 v78 : Value), Found ls a D → MapF w' fb (fD D) s → s + left D n.toNat = n.toNat → Below W1.heap.size W1 w' → Q .normal ⟨(u0 :: u1 :: u2 :: u3 :: u4 :: .map (some nb) :: u6 :: u7 :: .map (some fb) :: v9 :: v10 :: v11 :: v12 :: v13 :: v14 :: u15 :: u16 :: u17 :: u18 :: u19 :: u20 :: u21 :: u22 :: u23 :: u24 :: u25 :: u26 :: u27 :: u28 :: u29 :: u30 :: u31 :: u32 :: u33 :: u34 :: u35 :: u36 :: u37 :: u38 :: u39 :: u40 :: u41 :: u42 :: u43 :: v44 :: v45 :: v46 :: v47 :: v48 :: v49 :: v50 :: v51 :: v52 :: v53 :: v54 :: v55 :: v56 :: v57 :: v58 :: v59 :: v60 :: v61 :: v62 :: v63 :: v64 :: v65 :: v66 :: v67 :: v68 :: v69 :: v70 :: v71 :: v72 :: v73 :: v74 :: v75 :: v76 :: v77 :: v78 :: u79 :: []).toArray, []⟩ w') :
    Code.wp Tryd.prog stepsB2 Q ⟨(u0 :: u1 :: u2 :: u3 :: u4 :: .map (some nb) :: u6 :: u7 :: .map (some fb) :: v9 :: u10 :: u11 :: u12 :: u13 :: u14 :: u15 :: u16 :: u17 :: u18 :: u19 :: u20 :: u21 :: u22 :: u23 :: u24 :: u25 :: u26 :: u27 :: u28 :: u29 :: u30 :: u31 :: u32 :: u33 :: u34 :: u35 :: u36 :: u37 :: u38 :: u39 :: u40 :: u41 :: u42 :: u43 :: u44 :: u45 :: u46 :: u47 :: u48 :: u49 :: u50 :: u51 :: u52 :: u53 :: u54 :: u55 :: u56 :: u57 :: u58 :: u59 :: u60 :: u61 :: u62 :: u63 :: u64 :: u65 :: u66 :: u67 :: u68 :: u69 :: u70 :: u71 :: u72 :: u73 :: u74 :: u75 :: u76 :: u77 :: u78 :: u79 :: []).toArray, []⟩ W := by
  have HQ := Lib.hid hQ
  have HN := Lib.hid hnm
  have HR := Lib.hid hr
  have HOK := Lib.hid hok
  have HB0 := Lib.hid hb
  have HF0 := Lib.hid hbf
  have HRL := Lib.hid hrl
  clear hQ hnm hr hok hb hbf hrl
  conv => arg 2; whnf
  go_wp2
  go_loopg [9] (1 + left (updD (fun _ => none) a 0) n.toNat) (fun k v wr => ∃ D s q, k = q.length + left D n.toNat ∧ Below W1.heap.size W1 wr ∧ Bf wr n W1.heap.size fb D s v q ∧ OutP ls a D q)
  case atStart =>
    refine ⟨_, 1, [a], rfl, HB0.out, HF0.out, ?_⟩
    exact mid_start ls a
  case round =>
    obtain ⟨D, s, q, hk, hb, hbf, hout⟩ := hrel
    have HB := Lib.hid hb
    have HF := Lib.hid hbf
    have HK := Lib.hid hk
    have HO := Lib.hid hout
    clear hb hbf hk hout
    match q with
    | [] =>
      obtain ⟨ao, cap, rfl⟩ := QI.nil_ HF.out.row
      have HE := Lib.hid (fun v9 v10 v11 v12 v13 v14 v44 v45 v46 v47 v48 v49 v50 v51 v52 v53 v54 v55 v56 v57 v58 v59 v60 v61 v62 v63 v64 v65 v66 v67 v68 v69 v70 v71 v72 v73 v74 v75 v76 v77 v78 => HQ.out wr D s v9 v10 v11 v12 v13 v14 v44 v45 v46 v47 v48 v49 v50 v51 v52 v53 v54 v55 v56 v57 v58 v59 v60 v61 v62 v63 v64 v65 v66 v67 v68 v69 v70 v71 v72 v73 v74 v75 v76 v77 v78 HO.out HF.out.map HF.out.cnt HB.out)
      clear HQ
      go_wp2
      exact HE.out _ _ _ _ _ _ _ _ _ _ _ _ _ _ _ _ _ _ _ _ _ _ _ _ _ _ _ _ _ _ _ _ _ _ _ _ _ _ _ _ _
    | h :: t =>
      obtain ⟨g, off, cap, rfl⟩ := QI.open_ HF.out.row
      have MI := Lib.hid (show Mid ls a D h t [] from HO.out)
      obtain ⟨p, ix, _, px⟩ := elI (k := 0) (QI.row HF.out.row) rfl (by simp) (x := h) rfl
      have ix0 : ∀ w, (Instr.indexAt 30 (.slice (some ⟨g, off, none⟩) (t.length + 1) cap) (.int .i64 0)).run Tryd.prog w = .ok (.pointer (some p)) w := ix
      have p0 := px wr (Below.refl _ _)
      obtain ⟨dh, hdh⟩ := MI.out.inq h (List.mem_cons_self ..)
      have hrh := HF.out.rng h dh hdh
      have HD := Lib.hid hdh
      have hhk : I64 h := ⟨by omega, by omega⟩
      have NW := Lib.hid (HN.out.on HB.out)
      have lk := NW.out.look hhk
      have rz := Row.len (QI.row (NW.out.rows h))
      obtain ⟨zo, zc, hz⟩ := rz
      obtain ⟨zl, hzl⟩ : ∃ zl, zl = (nbL r h).length := ⟨_, rfl⟩
      rw [← hzl] at hz
      rw [hz] at lk
      have HZ := Lib.hid hz
      have HZL := Lib.hid hzl
      have hzs : zl ≤ 800 := by have := nbL_len r h; have := HRL.out; omega
      have HI := Lib.hid hhk
      have HRH := Lib.hid hrh
      clear ix px hdh hz hzl hhk hrh HO
      have M0 := Lib.hid (show ∃ M, M = t.length + left D n.toNat from ⟨_, rfl⟩)
      obtain ⟨M, hM⟩ := M0.out
      have HM := Lib.hid hM
      have F0 := Lib.hid HF.out
      clear hM M0
      go_wp2
      obtain ⟨wo, rfl⟩ : ∃ wo : World, wo = wr := ⟨_, rfl⟩
      go_loopw [9, 56] (fun v i wq => ∃ (j : Nat) (D : Int → Option Nat) (s : Nat) (t : List Int), j ≤ zl ∧ i = .int .i64 j ∧ Below W1.heap.size W1 wq ∧ Bf wq n W1.heap.size fb D s v (h :: t) ∧ Mid ls a D h t ((nbL r h).take j) ∧ t.length + left D n.toNat = M) (fun _ i _ => zl - (intOf i).toNat)
      case atStart => exact ⟨0, D, s, t, Nat.zero_le _, rfl, HB.out, F0.out, MI.out, HM.out.symm⟩
      case round =>
        clear p0 lk ix0
        obtain ⟨j, D2, s2, t2, hj, rfl, hb, hbf, hmid, hMj⟩ := hrel
        have HB2 := Lib.hid hb
        have HF2 := Lib.hid hbf
        have HI2 := Lib.hid hmid
        have HM2 := Lib.hid hMj
        clear hb hbf hmid hMj HQ
        by_cases hlt : j < zl
        · obtain ⟨x, hx⟩ : ∃ x, (nbL r h)[j]? = some x := ⟨_, List.getElem?_eq_getElem (by rw [← HZL.out]; exact hlt)⟩
          have rowh := QI.row ((HN.out.on HB2.out).rows h)
          rw [HZ.out] at rowh
          obtain ⟨p, ix, _, px⟩ := elI rowh rfl HZL.out.symm hx
          have p0 := px wr (Below.refl _ _)
          have hadj : Adj ls h x := (HR.out _).1 (nbL_mem.1 (List.mem_of_getElem? hx))
          have hrx := (HOK.out.adj hadj).2
          have hxk : I64 x := ⟨by omega, by omega⟩
          have lx := HF2.out.map.look_ok Tryd.underlying57 zeroN hxk
          have TK := Lib.hid (show (nbL r h).take (j + 1) = (nbL r h).take j ++ [x] by rw [List.take_add_one, hx]; rfl)
          cases hdx : D2 x with
          | some d =>
            rw [show fD D2 x = some (.int .i64 d) by simp [fD, hdx]] at lx
            simp only [Option.getD_some, Option.isSome_some] at lx
            have MS := Lib.hid (HI2.out.seen hdx)
            clear hdx hxk hrx hadj px rowh hx
            go_wp2
            go_roundw
            case rel => exact ⟨j + 1, D2, s2, t2, by omega, by go_num, HB2.out, HF2.out, by rw [TK.out]; exact MS.out, HM2.out⟩
            case measure => simp [intOf]; omega
          | none =>
            rw [show fD D2 x = none by simp [fD, hdx]] at lx
            simp only [Option.getD_none, Option.isSome_none] at lx
            obtain ⟨d2, hd2⟩ := HI2.out.inq h (List.mem_cons_self ..)
            have hds := HF2.out.max h d2 hd2
            have lh := HF2.out.map.look Tryd.underlying57 zeroN HI.out
            rw [show fD D2 h = some (.int .i64 d2) by simp [fD, hd2]] at lh
            simp only [Option.getD_some] at lh
            obtain ⟨w1, w2, g2, off2, m2, cap2, r1, r2, bf2, bb2⟩ := HF2.out.push x (d2 + 1) hdx hrx hds hn HB2.out.size
            rw [show ((d2 + 1 : Nat) : Int) = (d2 : Int) + 1 by omega] at r1
            have hd8 : d2 ≤ 800 := by have := HF2.out.cnt; omega
            have BF := Lib.hid bf2
            have BB := Lib.hid (HB2.out.trans bb2)
            have MP := Lib.hid (show Mid ls a (updD D2 x (d2 + 1)) h (t2 ++ [x]) ((nbL r h).take j ++ [x]) by
              have := HI2.out.push hdx hadj
              rw [show dv D2 h = d2 by unfold dv; rw [hd2]; rfl] at this
              exact this)
            have ML := Lib.hid (show (t2 ++ [x]).length + left (updD D2 x (d2 + 1)) n.toNat = M by
              have h1 := left_upd (D := D2) (x := x) (d := d2 + 1) hdx hrx.1 n.toNat
              rw [if_pos (by omega)] at h1
              have h2 := HM2.out
              simp
              omega)
            clear hdx hxk hrx hadj px rowh hx hd2 hds bf2 bb2
            go_wp2_with (first | (at_builtin; refine wpList_append_run rfl _ _ 30 rfl rfl rfl r2 ?_) | fail)
            go_roundw
            case rel => exact ⟨j + 1, updD D2 x (d2 + 1), s2 + 1, t2 ++ [x], by omega, by go_num, BB.out, BF.out, by rw [TK.out]; exact MP.out, ML.out⟩
            case measure => simp [intOf]; omega
        · obtain rfl : j = zl := by omega
          have e : (nbL r h).take j = nbL r h := List.take_of_length_le (by rw [← HZL.out]; exact Nat.le_refl _)
          rw [e] at HI2
          clear e
          obtain ⟨g3, off3, cap3, rfl⟩ := QI.open_ HF2.out.row
          obtain ⟨off4, sl, q4⟩ := tail_q HF2.out.row
          have hds : ∀ w, Adj ls h w → w ∈ nbL r h := fun w hw => nbL_mem.2 ((HR.out (h, w)).2 hw)
          have OP := Lib.hid (show OutP ls a D2 t2 by
            cases t2 with
            | nil => exact HI2.out.last hds
            | cons g5 t5 => exact HI2.out.pop hds)
          have BD := Lib.hid (HF2.out.drop q4 (by simp))
          clear hds q4
          go_wp2
          go_roundg (t2.length + left D2 n.toNat)
          case measure =>
            have h1 := HK.out
            have h2 := HM.out
            have h3 := HM2.out
            simp at h1
            omega
          case rel => exact ⟨D2, s2, t2, rfl, HB2.out, BD.out, OP.out⟩
end Go.Proofs.YtbnfndcbhnjnaaaDoor.Gr

namespace Go.Proofs.YtbnfndcbhnjnaaaDoor.Gr
open Go.RowKit Go.Sort Go.Proofs.YtbnfndcbhnjnaaaDoor Go.Proofs.YtbnfndcbhnjnaaaDoor.Rw

theorem QI.mono {W : World} {B B' : Nat} {v : Value} {l : List Int} (h : QI W B v l) (hB : B' ≤ B) : QI W B' v l := by
  rcases h with h1 | ⟨g, off, cap, cur, h1, h2, h3⟩
  · exact Or.inl h1
  · exact Or.inr ⟨g, off, cap, cur, h1, Nat.le_trans hB h2, h3⟩
theorem fD_start (a : Int) : updF (fun _ => none) a (.int .i64 0) = fD (updD (fun _ => none) a 0) := by
  have h := fD_upd (fun _ => none) a 0
  exact h
theorem bf_start (W1 : World) (n a : Int) (ha : 0 ≤ a ∧ a < n) (hn : n ≤ 800) :
    ∃ w1, (Instr.mapUpdate 57 (.map (some W1.heap.size)) (.int .i64 a) (.int .i64 0)).run Tryd.prog (W1.alloc (.map #[] 0)) = .ok () w1 ∧ Below W1.heap.size W1 w1 ∧
      Bf (w1.alloc (.cells #[.int .i64 a] 3)) n W1.heap.size W1.heap.size (updD (fun _ => none) a 0) 1 (.slice (some ⟨w1.heap.size, 0, none⟩) 1 1) [a] := by
  have hxk : I64 a := ⟨by omega, by omega⟩
  obtain ⟨w1, r1, m1, g1⟩ := (mapF_made W1).store Tryd.underlying57 hxk (.int .i64 0) (by omega)
  have b0 : Below W1.heap.size W1 (W1.alloc (.map #[] 0)) := (Below.refl _ _).alloc (Nat.le_refl _) _
  have b1 : Below W1.heap.size W1 w1 := b0.grown g1 (by simp) (fun j hj => by obtain rfl := Option.some.inj hj; exact Nat.le_refl _)
  refine ⟨w1, r1, b1, ?_⟩
  rw [fD_start] at m1
  have m2 := m1.on ((Below.refl _ _).alloc (Nat.le_refl _) (.cells #[.int .i64 a] 3))
  have q := (QI.of_own (own_oneI w1 a)).mono b1.size
  have hl := left_upd (D := fun _ => none) (x := a) (d := 0) rfl ha.1 n.toNat
  rw [if_pos (by omega), left_none] at hl
  have dx : ∀ v d, updD (fun _ => none) a 0 v = some d → v = a ∧ d = 0 := fun v d hv => by
    unfold updD at hv
    split at hv
    · rename_i e
      injection hv with hv
      exact ⟨e, hv.symm⟩
    · cases hv
  refine ⟨by simpa using m2, q, Nat.le_refl _, by omega, fun x d hx => ?_, fun x d hx => ?_, by simp⟩
  · obtain ⟨_, rfl⟩ := dx x d hx
    omega
  · obtain ⟨rfl, _⟩ := dx x d hx
    exact ha
set_option maxRecDepth 100000 in
set_option maxHeartbeats 8000000 in
theorem steps_any (SO : SortOkL) (n : Int) (lv : Value) (l : List Lk) (a : Int) (w : World) (hl : RowK w lv l) (hok : Lok n l) (hs : Simp l) (h400 : l.length ≤ 400) (hn : n ≤ 800) (ha : 0 ≤ a ∧ a < n) :
    Calls Tryd.prog 28 #[gv n lv, .int .i64 a] w fun e w' => (∃ fb D s, e = .returned (.map (some fb)) ∧ Found l a D ∧ MapF w' fb (fD D) s ∧ s + left D n.toNat = n.toNat) ∧ Below w.heap.size w w' := by
  have B := Lib.hid (show Below w.heap.size w (w.alloc (.cells #[.int .i64 n, lv] 25)) from (Below.refl _ _).alloc (Nat.le_refl _) _)
  have X := Lib.hid (box_new w #[.int .i64 n, lv] 25)
  have HL := Lib.hid (hl.on B.out)
  have OK := Lib.hid hok
  have HS := Lib.hid hs
  have HA := Lib.hid ha
  have IR := Lib.hid (show inR n a = true from inR_iff.2 ha)
  have hmm := @run_makeMap Tryd.prog
  clear hl hok hs ha
  go_enter Tryd.func28, Tryd.ntmps28
  go_wp2_with fail
  have hBW : w.heap.size ≤ (w.alloc (.cells #[.int .i64 n, lv] 25)).heap.size := B.out.size
  generalize w.alloc (.cells #[.int .i64 n, lv] 25) = W at *
  refine (there_any n a lv W).mono ?_
  rintro e w2 ⟨rfl, hb⟩
  rw [IR.out]
  have B2 := Lib.hid (B.out.trans (hb.mono B.out.size))
  have X2 := Lib.hid (X.out.on hb)
  have HL2 := Lib.hid (HL.out.on hb)
  clear hb X HL IR B
  have BM := Lib.hid ((Below.refl w2.heap.size w2).alloc (Nat.le_refl _) (.map #[] 0))
  have X3 := Lib.hid (X2.out.on BM.out)
  have a0 := X3.out.cell 0
  have a1 := X3.out.cell 1
  simp only [List.getElem?_toArray, List.getElem?_cons_zero, List.getElem?_cons_succ] at a0 a1
  have C := Lib.hid (ways_any SO n lv l (w2.alloc (.map #[] 0)) (HL2.out.on BM.out) OK.out HS.out h400)
  have NM0 := Lib.hid (nm_start w2 0)
  go_wp2_with fail
  refine C.out.mono ?_
  rintro e w4 ⟨⟨v, r, rfl, ho, hw⟩, hb4⟩
  obtain ⟨ao, ac, rfl⟩ := (Row.of_own ho).len
  have hm : r.length = 2 * l.length := hw.len HS.out
  obtain ⟨m, hme⟩ : ∃ m, m = r.length := ⟨_, rfl⟩
  rw [← hme] at ho hm ⊢
  have HM := Lib.hid hme
  have M8 : m ≤ 800 := by omega
  have NE := Lib.hid (show Value.ownBlock (.slice ao m ac) ≠ some w2.heap.size from fun e => by
    have h1 := (ho.lt _ e).1
    have h2 : (w2.alloc (.map #[] 0)).heap.size = w2.heap.size + 1 := by simp
    omega)
  have HO := Lib.hid ho
  have HW := Lib.hid hw
  have NM4 := Lib.hid (show NM w4 w4.heap.size w2.heap.size (fun _ => .slice none 0 0) (nbL []) 0 from by
    have h := NM0.out.on hb4
    exact ⟨h.map, fun v => Or.inl ⟨rfl, rfl⟩, fun v _ => rfl, fun v u _ g h => (by cases h)⟩)
  have B4 := Lib.hid (B2.out.trans ((BM.out.trans (hb4.mono BM.out.size)).mono B2.out.size))
  have S4 := Lib.hid hb4.size
  have IY := Lib.hid (show ∀ p ∈ r, I64 p.1 from fun p hp => by
    have := (OK.out.adj ((hw.2 p).1 hp)).1
    exact ⟨by omega, by omega⟩)
  clear hme hm ho hw hb4 C NM0 a0 a1
  go_upto_block 0 with (fail)
  refine steps_b0 _ w4 w2.heap.size _ ao m ac r _ _ _ _ _ _ _ _ _ _ _ _ _ _ _ _ _ _ _ _ _ _ _ _ _ _ _ _ _ _ _ _ _ _ _ _ _ _ _ _ _ _ _ _ _ _ _ _ _ _ _ _ _ _ _ _ _ _ _ _ _ _ _ _ _ _ _ _ _ _ _ _ _ _ _ _ NM4.out _ HO.out HM.out M8 IY.out NE.out ?_
  intro wA S c v7 v24 v25 v26 v27 v28 v29 v30 v31 v32 v33 v34 v35 v36 v37 v38 hnm hkp
  have BA := Lib.hid (B4.out.trans (hkp.below B4.out.size B2.out.size))
  have HN := Lib.hid hnm
  obtain ⟨w5, r5, b5, bf⟩ := bf_start wA n a HA.out hn
  have B5 := Lib.hid b5
  have BF := Lib.hid bf
  have B6 := Lib.hid (b5.alloc b5.size (.cells #[.int .i64 a] 3))
  clear hnm hkp b5 bf
  go_upto_block 2 with (fail)
  refine steps_b2 _ wA n l a w2.heap.size wA.heap.size _ S c r _ _ _ _ _ _ _ _ _ _ _ _ _ _ _ _ _ _ _ _ _ _ _ _ _ _ _ _ _ _ _ _ _ _ _ _ _ _ _ _ _ _ _ _ _ _ _ _ _ _ _ _ _ _ _ _ _ _ _ _ _ _ _ _ _ _ _ _ _ _ _ _ _ _ _ _ _ _ _ HN.out (fun p => HW.out.2 p) OK.out hn HA.out (by have := HM.out; omega) B6.out BF.out ?_
  intro w7 D s v9 v10 v11 v12 v13 v14 v44 v45 v46 v47 v48 v49 v50 v51 v52 v53 v54 v55 v56 v57 v58 v59 v60 v61 v62 v63 v64 v65 v66 v67 v68 v69 v70 v71 v72 v73 v74 v75 v76 v77 v78 hf hm7 hc7 hb7
  have B7 := Lib.hid (BA.out.trans (hb7.mono BA.out.size))
  have F7 := Lib.hid hf
  have M7 := Lib.hid hm7
  have C7 := Lib.hid hc7
  clear hf hm7 hc7 hb7
  go_wp2
  go_ret
  exact ⟨⟨_, D, s, rfl, F7.out, M7.out, C7.out⟩, B7.out⟩
set_option maxRecDepth 100000 in
set_option maxHeartbeats 8000000 in
theorem steps_no (n : Int) (lv : Value) (a : Int) (w : World) (ha : ¬ (0 ≤ a ∧ a < n)) :
    Calls Tryd.prog 28 #[gv n lv, .int .i64 a] w fun e w' => e = .returned (.map none) ∧ Below w.heap.size w w' := by
  have B := Lib.hid (show Below w.heap.size w (w.alloc (.cells #[.int .i64 n, lv] 25)) from (Below.refl _ _).alloc (Nat.le_refl _) _)
  have IR := Lib.hid (show inR n a = false by cases h : inR n a; rfl; exact absurd (inR_iff.1 h) ha)
  clear ha
  go_enter Tryd.func28, Tryd.ntmps28
  go_wp2_with fail
  generalize w.alloc (.cells #[.int .i64 n, lv] 25) = W at *
  refine (there_any n a lv W).mono ?_
  rintro e w2 ⟨rfl, hb⟩
  rw [IR.out]
  have B2 := Lib.hid (B.out.trans (hb.mono B.out.size))
  clear hb IR B
  go_wp2
  go_ret
  exact ⟨rfl, B2.out⟩
end Go.Proofs.YtbnfndcbhnjnaaaDoor.Gr

namespace Go.Proofs.YtbnfndcbhnjnaaaDoor.Gr
open Go.RowKit Go.Sort Go.Proofs.YtbnfndcbhnjnaaaDoor Go.Proofs.YtbnfndcbhnjnaaaDoor.Rw

set_option maxRecDepth 100000 in
set_option maxHeartbeats 4000000 in
theorem far_any (SO : SortOkL) (n : Int) (lv : Value) (l : List Lk) (a b : Int) (w : World) (hl : RowK w lv l) (hok : Lok n l) (hs : Simp l) (h400 : l.length ≤ 400) (hn : n ≤ 800) (hb : I64 b) :
    Calls Tryd.prog 15 #[gv n lv, .int .i64 a, .int .i64 b] w fun e w' => (∃ r, e = .returned (.int .i64 r) ∧ FarIs n l a b r) ∧ Below w.heap.size w w' := by
  have B := Lib.hid (show Below w.heap.size w (w.alloc (.cells #[.int .i64 n, lv] 25)) from (Below.refl _ _).alloc (Nat.le_refl _) _)
  have X := Lib.hid (box_new w #[.int .i64 n, lv] 25)
  have HL := Lib.hid (hl.on B.out)
  have OK := Lib.hid hok
  have HS := Lib.hid hs
  have IB := Lib.hid hb
  clear hl hok hs hb
  by_cases ha : 0 ≤ a ∧ a < n
  · have HA := Lib.hid ha
    clear ha
    go_enter Tryd.func15, Tryd.ntmps15
    go_wp2_with fail
    generalize w.alloc (.cells #[.int .i64 n, lv] 25) = W at *
    refine (steps_any SO n lv l a W HL.out OK.out HS.out h400 hn HA.out).mono ?_
    rintro e w2 ⟨⟨fb, D, s, rfl, hf, hm, _⟩, hb⟩
    have B2 := Lib.hid (B.out.trans (hb.mono B.out.size))
    have lk := hm.look_ok Tryd.underlying57 zeroN IB.out
    have HF := Lib.hid hf
    clear hb hm hf X HL B
    cases hd : D b with
    | some d =>
      rw [show fD D b = some (.int .i64 d) by simp [fD, hd]] at lk
      simp only [Option.getD_some, Option.isSome_some] at lk
      have R := Lib.hid (show FarIs n l a b d from Or.inl ⟨HA.out, d, rfl, HF.out.dist hd⟩)
      clear hd
      go_wp2
      go_ret
      exact ⟨⟨d, rfl, R.out⟩, B2.out⟩
    | none =>
      rw [show fD D b = none by simp [fD, hd]] at lk
      simp only [Option.getD_none, Option.isSome_none] at lk
      have R := Lib.hid (show FarIs n l a b (-1) from Or.inr ⟨rfl, fun _ k => HF.out.none hd k⟩)
      clear hd
      go_wp2
      go_ret
      exact ⟨⟨-1, rfl, R.out⟩, B2.out⟩
  · have R := Lib.hid (show FarIs n l a b (-1) from Or.inr ⟨rfl, fun h => absurd h ha⟩)
    have HA := Lib.hid ha
    clear ha
    go_enter Tryd.func15, Tryd.ntmps15
    go_wp2_with fail
    generalize w.alloc (.cells #[.int .i64 n, lv] 25) = W at *
    refine (steps_no n lv a W HA.out).mono ?_
    rintro e w2 ⟨rfl, hb⟩
    have B2 := Lib.hid (B.out.trans (hb.mono B.out.size))
    have lk := look_none (w := w2) (t := 57) Tryd.underlying57 (zeroN w2) IB.out true
    simp only [if_true] at lk
    clear hb X HL B
    go_wp2
    go_ret
    exact ⟨⟨-1, rfl, R.out⟩, B2.out⟩
end Go.Proofs.YtbnfndcbhnjnaaaDoor.Gr
