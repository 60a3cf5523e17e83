/-
  join of package pred: one constraint more in a normal form. Condition: the normal form has at most five constraints; it is the caller's own.
-/
import Derived.Test.YtdomincmoaahoaaBf
import Derived.Test.YtdomincmoaahoaaBg
import Derived.Deep.RegionWith
namespace Go.Proofs.Ytdomincmoaahoaa.Pr
open Go.RowKit Go.Sort Go.Proofs.Ytdomincmoaahoaa Go.Proofs.Ytdomincmoaahoaa.Pu Go.Proofs.Ytdomincmoaahoaa.Rw Go.Proofs.Ytdomincmoaahoaa.Va

/-- One step of the normal form. -/
def stepC (m : List Cn) (c : Cn) : Except Int (List Cn) := match insC m c with
  | none => .error 5
  | some m' => if 5 < m'.length then .error 7 else .ok m'
def JoinQ (B : Nat) (r : Except Int (List Cn)) (W : World) (e : Ending) (w' : World) : Prop := Below B W w' ∧ (match r with
  | .ok m' => ∃ v', e = .returned (.tuple #[v', .nilIface]) ∧ OwnC w' B v' (m'.map r5)
  | .error k => e = .returned (.tuple #[.slice none 0 0, .iface 77 (.int .i64 k)]))
theorem step_full {m : List Cn} {c : Cn} (h : thereC m c.1 = false) (h5 : m.length = 5) : stepC m c = .error 7 := by
  unfold stepC
  rw [ins_not h]
  have := cntC_le m c.1
  simp only
  rw [if_pos (by simp; omega)]
theorem step_room {m : List Cn} {c : Cn} (h : thereC m c.1 = false) (h5 : m.length < 5) : stepC m c = .ok (m.take (cntC m c.1) ++ c :: m.drop (cntC m c.1)) := by
  unfold stepC
  rw [ins_not h]
  have := cntC_le m c.1
  simp only
  rw [if_neg (by simp; omega)]
theorem flat5_set : ∀ (l : List C5) (k : Nat) (x : C5), k < l.length → flat EC (l.set k x) = ((((( flat EC l).set (k * 5) (.string x.1)).set (k * 5 + 1) (.int .i64 x.2.1)).set (k * 5 + 2) (.int .i64 x.2.2.1)).set (k * 5 + 3) (.int .i64 x.2.2.2.1)).set (k * 5 + 4) (.string x.2.2.2.2)
  | [], k, x, h => by simp at h
  | y :: r, 0, x, _ => by simp [flat, EC, cells5]
  | y :: r, k + 1, x, h => by
    have h2 := flat5_set r k x (by simpa using h)
    have e : ∀ j u (zs : List Value), (cells5 y ++ zs).set (5 + j) u = cells5 y ++ zs.set j u := fun j u zs => by simp [cells5, Nat.add_comm 5 j]
    simp only [List.set_cons_succ, flat, h2]
    show cells5 y ++ _ = _
    rw [show (k + 1) * 5 = 5 + k * 5 by omega, show 5 + k * 5 + 1 = 5 + (k * 5 + 1) by omega, show 5 + k * 5 + 2 = 5 + (k * 5 + 2) by omega, show 5 + k * 5 + 3 = 5 + (k * 5 + 3) by omega, show 5 + k * 5 + 4 = 5 + (k * 5 + 4) by omega]
    show _ = ((((( cells5 y ++ flat EC r).set _ _).set _ _).set _ _).set _ _).set _ _
    rw [e, e, e, e, e]
/-- A constraint stored in a row of one's own. -/
theorem own_store {W : World} {B g n cap k : Nat} {l : List C5} {x : C5} (h : OwnC W B (.slice (some ⟨g, 0, none⟩) n cap) l) (hn : n = l.length) (hk : k < n) :
    OwnC (((((W.setCell ⟨g, k * 5, none⟩ (.string x.1)).setCell ⟨g, k * 5 + 1, none⟩ (.int .i64 x.2.1)).setCell ⟨g, k * 5 + 2, none⟩ (.int .i64 x.2.2.1)).setCell ⟨g, k * 5 + 3, none⟩ (.int .i64 x.2.2.2.1)).setCell ⟨g, k * 5 + 4, none⟩ (.string x.2.2.2.2)) B (.slice (some ⟨g, 0, none⟩) n cap) (l.set k x) := by
  subst hn
  have o1 := (World.ownsRow.stored h (k * 5) (.string x.1)).1
  have o2 := (World.ownsRow.stored o1 (k * 5 + 1) (.int .i64 x.2.1)).1
  have o3 := (World.ownsRow.stored o2 (k * 5 + 2) (.int .i64 x.2.2.1)).1
  have o4 := (World.ownsRow.stored o3 (k * 5 + 3) (.int .i64 x.2.2.2.1)).1
  have o5 := (World.ownsRow.stored o4 (k * 5 + 4) (.string x.2.2.2.2)).1
  rw [← flat5_set l k x hk] at o5
  show World.ownsRow _ _ _ _ _ (l.set k x).length _
  rw [List.length_set]
  exact o5
theorem below_fiveAt {B : Nat} {W w : World} (h : Below B W w) (g : Nat) (hB : B ≤ g) (o : Nat) (v0 v1 v2 v3 v4 : Value) : Below B W (((((w.setCell ⟨g, o, none⟩ v0).setCell ⟨g, o + 1, none⟩ v1).setCell ⟨g, o + 2, none⟩ v2).setCell ⟨g, o + 3, none⟩ v3).setCell ⟨g, o + 4, none⟩ v4) :=
  ((((h.setCell hB _).setCell hB _).setCell hB _).setCell hB _).setCell hB _
theorem box_store {W : World} {b : Nat} {z : C5} (h : Box W b (cells5 z).toArray 23) (x : C5) : Box (((((W.setCell ⟨b, 0, none⟩ (.string x.1)).setCell ⟨b, 1, none⟩ (.int .i64 x.2.1)).setCell ⟨b, 2, none⟩ (.int .i64 x.2.2.1)).setCell ⟨b, 3, none⟩ (.int .i64 x.2.2.2.1)).setCell ⟨b, 4, none⟩ (.string x.2.2.2.2)) b (cells5 x).toArray 23 := by
  have h1 := heap_setCell_same W b 0 _ 23 (.string x.1) h
  have h2 := heap_setCell_same _ b 1 _ 23 (.int .i64 x.2.1) h1
  have h3 := heap_setCell_same _ b 2 _ 23 (.int .i64 x.2.2.1) h2
  have h4 := heap_setCell_same _ b 3 _ 23 (.int .i64 x.2.2.2.1) h3
  have h5 := heap_setCell_same _ b 4 _ 23 (.string x.2.2.2.2) h4
  unfold Box
  rw [h5]
  simp [cells5]
theorem own_not {W : World} {B : Nat} {v : Value} {l : List C5} (h : OwnC W B v l) {b : Nat} (hb : W.heap.size ≤ b) : v.ownBlock ≠ some b := by
  intro e
  have := (h.lt b e).2
  omega

set_option maxRecDepth 100000 in
set_option maxHeartbeats 4000000 in
theorem join_new (B : Nat) (v : Value) (m : List Cn) (c : Cn) (W : World) (ho : OwnC W B v (m.map r5)) (hr : RiseC m) (h5 : m.length ≤ 5) (hB : B ≤ W.heap.size) (ht : thereC m c.1 = false) :
    Calls Try.prog 47 #[v, cv (r5 c)] W (JoinQ B (stepC m c) W) := by
  have BX := Lib.hid (box_new W (cells5 (r5 c)).toArray 23)
  have B1 := Lib.hid ((Below.refl W.heap.size W).alloc (Nat.le_refl _) (.cells (cells5 (r5 c)).toArray 23))
  have BS := Lib.hid (bs_any v m c (W.alloc (.cells (cells5 (r5 c)).toArray 23)) ((Row.of_own ho).on B1.out) hr (by omega))
  have OW := Lib.hid ho
  have LN := Lib.hid (show (m.map r5).length = m.length from List.length_map ..)
  have CL := Lib.hid (cntC_le m c.1)
  obtain ⟨ao, ac, rfl⟩ := (Row.of_own ho).len
  rw [LN.out] at *
  rw [ht] at BS
  have hbw : W.heap.size < (W.alloc (.cells (cells5 (r5 c)).toArray 23)).heap.size := by simp
  by_cases hf : m.length = 5
  · have Q := Lib.hid (step_full ht hf)
    generalize stepC m c = q at *
    have e5 : ((m.length : Int) == (5 : Int)) = true := by simp; omega
    clear ho hf
    simp only [r5] at BS ⊢
    go_enter Try.func47, Try.ntmps47
    go_wp2_with fail
    refine BS.out.mono ?_
    rintro e2 w2 ⟨rfl, hb2⟩
    have B2 := Lib.hid (B1.out.trans (hb2.mono B1.out.size))
    clear hb2 BS B1 BX
    go_wp2
    go_ret2
    exact ⟨B2.out.mono hB, by rw [Q.out]; rfl⟩
  · have Q := Lib.hid (step_room ht (show m.length < 5 by omega))
    have IN := Lib.hid (fun (w2 : World) (h2 : OwnC w2 B (.slice ao m.length ac) (m.map r5)) (hB2 : B ≤ w2.heap.size) => insert_any B (.slice ao m.length ac) (m.map r5) (cntC m c.1) (r5 c) w2.heap.size (w2.alloc (.cells (cells5 (r5 c)).toArray 23)) (own_on h2 ((Below.refl _ _).alloc (Nat.le_refl _) _)) (box_new w2 _ _) (own_not h2 (Nat.le_refl _)) (by rw [List.length_map]; exact CL.out) (by rw [List.length_map]; omega) (by simp; omega))
    generalize stepC m c = q at *
    have e5 : ((m.length : Int) == (5 : Int)) = false := by rw [beq_eq_false_iff_ne]; omega
    clear ho hf
    simp only [r5] at BS ⊢
    go_enter Try.func47, Try.ntmps47
    go_wp2_with fail
    refine BS.out.mono ?_
    rintro e2 w2 ⟨rfl, hb2⟩
    have B2 := Lib.hid (B1.out.trans (hb2.mono B1.out.size))
    have O2 := Lib.hid (own_on OW.out B2.out)
    obtain ⟨x0, x1, x2, x3, x4⟩ := box_five (BX.out.on hb2)
    simp only [r5] at x0 x1 x2 x3 x4
    clear hb2 BS B1 BX
    go_wp2_with fail
    have C := IN.out w2 O2.out (by have := B2.out.size; omega)
    refine C.mono ?_
    rintro e3 w3 ⟨v', rfl, ho3, hb3⟩
    have B3 := Lib.hid (((B2.out.mono hB).alloc (by have := B2.out.size; omega) (.cells (cells5 (r5 c)).toArray 23)).trans hb3)
    have O3 := Lib.hid ho3
    clear ho3 hb3 C IN O2 x0 x1 x2 x3 x4
    go_wp2
    go_ret2
    exact ⟨B3.out, by rw [Q.out]; exact ⟨v', rfl, by rw [List.map_append, List.map_cons, List.map_take, List.map_drop]; exact O3.out⟩⟩

set_option maxRecDepth 100000 in
set_option maxHeartbeats 8000000 in
theorem join_old (B : Nat) (v : Value) (m : List Cn) (c : Cn) (W : World) (ho : OwnC W B v (m.map r5)) (hr : RiseC m) (h5 : m.length ≤ 5) (hB : B ≤ W.heap.size) (ht : thereC m c.1 = true) :
    Calls Try.prog 47 #[v, cv (r5 c)] W (JoinQ B (stepC m c) W) := by
  obtain ⟨x, hx, hn, hi⟩ := ins_there ht
  have BX := Lib.hid (box_new W (cells5 (r5 c)).toArray 23)
  have B1 := Lib.hid ((Below.refl W.heap.size W).alloc (Nat.le_refl _) (.cells (cells5 (r5 c)).toArray 23))
  have BS := Lib.hid (bs_any v m c (W.alloc (.cells (cells5 (r5 c)).toArray 23)) ((Row.of_own ho).on B1.out) hr (by omega))
  rw [ht] at BS
  have CB := Lib.hid (fun w => both_any x c w hn)
  have Q := Lib.hid (show stepC m c = match bothK x.2 c.2 with
    | some k => .ok (m.set (cntC m c.1) (x.1, k))
    | none => .error 5 by
      unfold stepC
      rw [hi]
      cases bothK x.2 c.2 with
      | none => rfl
      | some k => simp only [Option.map_some]; rw [if_neg (by rw [List.length_set]; omega)])
  generalize stepC m c = q at *
  generalize bothK x.2 c.2 = r at *
  have hkl : cntC m c.1 < m.length := (List.getElem?_eq_some_iff.1 hx).1
  generalize hk : cntC m c.1 = k at *
  have HK := Lib.hid hkl
  have ML := Lib.hid (show (m.map r5).length = m.length from List.length_map ..)
  rcases own_open ho with ⟨_, h2⟩ | ⟨g, cap, cur, rfl, hBg, hg, hlc, hcm, hsz, htk⟩
  · have := List.map_eq_nil_iff.1 h2
    subst this
    simp at hkl
  · have fl := flat_at okC (m.map r5) k (r5 x) (by rw [List.getElem?_map, hx]; rfl)
    have cl : ∀ j u, j < 5 → (cells5 (r5 x))[j]? = some u → W.cell? ⟨g, k * 5 + j, none⟩ = some u := fun j u hj hu => (World.ownsRow.cellAt ho (k * 5 + j) (by rw [List.length_map]; show _ < m.length * 5; omega)).trans ((fl j hj).trans hu)
    have GC := Lib.hid (fun (w2 : World) (hb : Below W.heap.size W w2) => show w2.cell? ⟨g, k * 5, none⟩ = some (.string x.1) ∧ w2.cell? ⟨g, k * 5 + 1, none⟩ = some (.int .i64 (kN x.2)) ∧ w2.cell? ⟨g, k * 5 + 2, none⟩ = some (.int .i64 (kLo x.2)) ∧ w2.cell? ⟨g, k * 5 + 3, none⟩ = some (.int .i64 (kHi x.2)) ∧ w2.cell? ⟨g, k * 5 + 4, none⟩ = some (.string (kT x.2)) from
      ⟨(hb.cell (show g < W.heap.size from hg.lt)).trans (cl 0 _ (by decide) rfl), (hb.cell (show g < W.heap.size from hg.lt)).trans (cl 1 _ (by decide) rfl), (hb.cell (show g < W.heap.size from hg.lt)).trans (cl 2 _ (by decide) rfl), (hb.cell (show g < W.heap.size from hg.lt)).trans (cl 3 _ (by decide) rfl), (hb.cell (show g < W.heap.size from hg.lt)).trans (cl 4 _ (by decide) rfl)⟩)
    have OW := Lib.hid ho
    have GL := Lib.hid hg.lt
    have BG := Lib.hid hBg
    have GBX := Lib.hid (show Box W g cur 23 from hg)
    rw [List.length_map] at OW BS ⊢
    generalize m.length = n at *
    have ix := index_own okC g k n cap (by omega)
    change ∀ w, (Instr.indexAt 25 (.slice (some ⟨g, 0, none⟩) n cap) (.int .i64 k)).run Try.prog w = .ok (.pointer (some ⟨g, k * 5, none⟩)) w at ix
    clear ho hr ht hx hi hk hg hlc hcm hsz htk fl cl hBg hn
    simp only [r5] at BS CB ⊢
    go_enter Try.func47, Try.ntmps47
    go_wp2_with fail
    refine BS.out.mono ?_
    rintro e2 w2 ⟨rfl, hb2⟩
    have B2 := Lib.hid (B1.out.trans (hb2.mono B1.out.size))
    obtain ⟨x0, x1, x2, x3, x4⟩ := box_five (BX.out.on hb2)
    obtain ⟨p0, p1, p2, p3, p4⟩ := GC.out w2 B2.out
    have hw2 : W.heap.size < w2.heap.size := by have := hb2.size; simp at this; omega
    have hg2 : g < w2.heap.size := by have := GL.out; omega
    have gc1 : ∀ o, (w2.drew.alloc o).cell? ⟨g, k * 5, none⟩ = some (.string x.1) := fun o => ((Below.refl w2.heap.size w2.drew).alloc (Nat.le_refl _) o).cell hg2 |>.trans p0
    simp only [r5] at x0 x1 x2 x3 x4
    clear hb2 BS B1 BX gc1
    go_wp2_with fail
    rename_i K hK
    have TAIL : ∀ (pb : Nat) (wf : World) (y : C5) (u10 u11 u12 u13 u14 u15 u16 u17 u18 u19 u20 u21 u22 u23 u24 u25 u26 u27 u28 u29 u30 u31 u32 u33 u34 u35 u36 u37 u38 u39 u40 u41 u42 u43 : Value), Box wf pb (cells5 y).toArray 23 → Below W.heap.size W wf → (∀ k', r = some k' → y = r5 (x.1, k')) → K ⟨#[.slice (some ⟨g, 0, none⟩) n cap, cv (c.1, kN c.2, kLo c.2, kHi c.2, kT c.2), undef, .pointer (some ⟨W.heap.size, 0, none⟩), .slice none 0 0, .nilIface, .int .i64 k, .bool true, .pointer (some ⟨pb, 0, none⟩), .bool r.isSome, u10, u11, u12, u13, u14, u15, u16, u17, u18, u19, u20, u21, u22, u23, u24, u25, u26, u27, u28, u29, u30, u31, u32, u33, u34, u35, u36, u37, u38, u39, u40, u41, u42, u43], []⟩ wf := by
      clear x0 x1 x2 x3 x4 p0 p1 p2 p3 p4 CB B2 hw2 hg2
      intro pb wf y u10 u11 u12 u13 u14 u15 u16 u17 u18 u19 u20 u21 u22 u23 u24 u25 u26 u27 u28 u29 u30 u31 u32 u33 u34 u35 u36 u37 u38 u39 u40 u41 u42 u43 hyb hbw hyk
      obtain ⟨y0, y1, y2, y3, y4⟩ := box_five hyb
      have OF := own_on OW.out hbw
      have fz := fun j => (GBX.out.on hbw).fr j
      obtain ⟨p0, p1, p2, p3, p4⟩ := GC.out wf hbw
      have HB := Lib.hid hbw
      have HO := Lib.hid OF
      have HY := Lib.hid hyk
      clear hyb hbw OF GC OW hyk
      apply hK
      clear hK
      rcases r with _ | k'
      · have QQ := Lib.hid (show q = .error 5 from Q.out)
        clear Q
        go_wp2
        go_ret2
        exact ⟨HB.out.mono hB, by rw [QQ.out]; rfl⟩
      · have QQ := Lib.hid (show q = .ok (m.set k (x.1, k')) from Q.out)
        clear Q
        go_wp2
        go_ret2
        refine ⟨below_fiveAt (HB.out.mono hB) g BG.out _ _ _ _ _ _, ?_⟩
        rw [QQ.out]
        refine ⟨.slice (some ⟨g, 0, none⟩) n cap, rfl, ?_⟩
        rw [List.map_set, ← HY.out k' rfl]
        exact own_store HO.out ML.out.symm HK.out
    clear hK
    go_region_with (go_at_call 43; refine (CB.out _).mono ?_; rintro e w3 ⟨⟨y, rfl, hy⟩, hb3⟩; (try (have ZB := Lib.hid ((box_new w2.drew (cells5 (⟨#[]⟩, 0, 0, 0, ⟨#[]⟩)).toArray 23).on hb3); obtain ⟨z0, z1, z2, z3, z4⟩ := box_five ZB.out; have fz := fun k => ZB.out.fr k; simp only [World.size_drew] at z0 z1 z2 z3 z4 fz)))
    all_goals simp only [Exit.then]
    all_goals first
      | exact TAIL w3.heap.size _ y _ _ _ _ _ _ _ _ _ _ _ _ _ _ _ _ _ _ _ _ _ _ _ _ _ _ _ _ _ _ _ _ _ _ (box_new w3 _ _) (((B2.out.drew).trans (hb3.mono (by have := B2.out.size; simp; omega))).alloc (by have := hb3.size; have := B2.out.size; simp at *; omega) _) hy
      | exact TAIL w2.heap.size _ y _ _ _ _ _ _ _ _ _ _ _ _ _ _ _ _ _ _ _ _ _ _ _ _ _ _ _ _ _ _ _ _ _ _ (box_store ((box_new w2.drew (cells5 (⟨#[]⟩, 0, 0, 0, ⟨#[]⟩)).toArray 23).on hb3) y) (below_five (((B2.out.drew).alloc (by have := B2.out.size; simp; omega) _).trans (hb3.mono (by have := B2.out.size; simp; omega))) w2.heap.size (by have := B2.out.size; omega) _ _ _ _ _) hy
theorem join_any (B : Nat) (v : Value) (m : List Cn) (c : Cn) (W : World) (ho : OwnC W B v (m.map r5)) (hr : RiseC m) (h5 : m.length ≤ 5) (hB : B ≤ W.heap.size) :
    Calls Try.prog 47 #[v, cv (r5 c)] W (JoinQ B (stepC m c) W) := by
  cases h : thereC m c.1
  · exact join_new B v m c W ho hr h5 hB h
  · exact join_old B v m c W ho hr h5 hB h
end Go.Proofs.Ytdomincmoaahoaa.Pr
