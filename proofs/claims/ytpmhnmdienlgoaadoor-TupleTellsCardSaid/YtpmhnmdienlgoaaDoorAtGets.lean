/-
  The law TupleGets: it answers true at any publication of numbers, any name and values. Condition: the contracts of package tuple; numbers of 64 bits; lists no longer than a machine holds.
-/
import Derived.Test.YtpmhnmdienlgoaaDoorAtLaw
import Derived.Deep.Cut
import Derived.Deep.CutBlock
namespace Go.Proofs.YtpmhnmdienlgoaaDoor.At
open Go.RowKit Go.Sort Go.Proofs.YtpmhnmdienlgoaaDoor.Va Go.Proofs.YtpmhnmdienlgoaaDoor.In

def afterN : Nat → Code → Code
  | 0, c => c
  | k + 1, .seq _ b => afterN k b
  | _, c => c
def headN (k : Nat) (c : Code) : Code := match afterN k c with
  | .seq a _ => a
  | c => c
def findBlock (k : Nat) : Code → Option Code
  | .block id c => if id = k then some (.block id c) else findBlock k c
  | .seq a b => match findBlock k a with
    | some c => some c
    | none => findBlock k b
  | .cond _ a b => match findBlock k a with
    | some c => some c
    | none => findBlock k b
  | .loop c => findBlock k c
  | .scope c => findBlock k c
  | _ => none
noncomputable def gp (k : Nat) : Code := headN k (Tryd.f7.body.getD .skip)
noncomputable def gets8 : Code := afterN 8 (Tryd.f7.body.getD .skip)
noncomputable def getsB : Code := ((Tryd.f7.body.bind (findBlock 0)).getD .skip)
def GetsQ (w : World) (e : Ending) (w' : World) : Prop := e = .returned (.bool true) ∧ Below w.heap.size w w'
theorem row_nil (W : World) : RowA W (.slice none 0 0) [] := Or.inl ⟨rfl, rfl⟩
theorem row_empty (W : World) (a : Addr) (c : Nat) (hc : c ≤ maxLen) : RowA W (.slice (some a) 0 c) [] := Or.inr ⟨a, c, rfl, Nat.zero_le _, hc, fun j u hj => by simp [flatA] at hj⟩

set_option maxRecDepth 100000 in
set_option maxHeartbeats 8000000 in
theorem gets_tail {G : World → Prop} (K : Oks G) (w W : World) (lv yv zv : Value) (l y : List A4) (nm_ : ByteArray) (r : Bool) (hg : G w) (hb : Below w.heap.size w W) (hl : RowA W lv l) (hy : RowA W yv y) (hz : RowA W zv y)
    (l5 : l.length ≤ 5) (hyl : y.length = l.length + (if r = true then 0 else 1)) (hno : getA y ⟨#[110, 111, 98, 111, 100, 121]⟩ = none) (hnm : nm_.size ≤ maxLen)
    (u0 u1 u2 u3 u4 u5 u6 u7 u8 u11 u14 u16 u17 u18 u19 u20 u21 u22 u23 u24 u25 u26 u27 u28 u29 u30 u31 u32 u33 u34 u35 u36 u37 u38 u39 u40 u41 u42 u43 u44 u45 u46 u47 u48 u49 u50 u51 u52 u53 u54 u55 u56 u57 u58 u59 u60 u61 u62 u63 u64 u65 u66 u67 u68 u69 u70 u71 u72 u73 u74 u75 u76 u77 u78 u79 u80 u81 u82 u83 u84 u85 u86 u87 u88 u89 u90 u91 u92 u93 u94 u95 u96 u97 u98 u99 u100 u101 u102 u103 u104 u105 u106 u107 u108 u109 u110 u111 u112 u113 u114 u115 u116 u117 u118 u119 u120 u121 u122 : Value) :
    Code.wp Tryd.prog gets8 (bodyPost Tryd.prog Tryd.f7 (GetsQ w)) ⟨#[u0, u1, u2, u3, u4, u5, u6, u7, u8, lv, .string nm_, u11, yv, zv, u14, .bool r, u16, u17, u18, u19, u20, u21, u22, u23, u24, u25, u26, u27, u28, u29, u30, u31, u32, u33, u34, u35, u36, u37, u38, u39, u40, u41, u42, u43, u44, u45, u46, u47, u48, u49, u50, u51, u52, u53, u54, u55, u56, u57, u58, u59, u60, u61, u62, u63, u64, u65, u66, u67, u68, u69, u70, u71, u72, u73, u74, u75, u76, u77, u78, u79, u80, u81, u82, u83, u84, u85, u86, u87, u88, u89, u90, u91, u92, u93, u94, u95, u96, u97, u98, u99, u100, u101, u102, u103, u104, u105, u106, u107, u108, u109, u110, u111, u112, u113, u114, u115, u116, u117, u118, u119, u120, u121, u122], []⟩ W := by
  have KK := Lib.hid K
  have HG := Lib.hid hg
  have B0 := Lib.hid hb
  have HL := Lib.hid hl
  have HY := Lib.hid hy
  have HZ := Lib.hid hz
  have NO := Lib.hid hno
  have NM := Lib.hid hnm
  have YL := Lib.hid hyl
  obtain ⟨lo, lc, rfl⟩ := hl.len
  obtain ⟨yo, yc, rfl⟩ := hy.len
  clear K hg hb hl hy hz hno hnm hyl
  have hyb : y.length ≤ 6 := by have := YL.out; split at this <;> omega
  conv => arg 2; whnf
  go_wp2_with fail
  refine (KK.out.get _ _ _ _ HY.out (by omega) (by decide)).mono ?_
  rintro e1 w1 ⟨rfl, hb⟩
  have B1 := Lib.hid ((B0.out.trans (hb.mono B0.out.size)).alloc (B0.out.trans (hb.mono B0.out.size)).size (.cells #[.bool false, .int .i64 0, .string ⟨#[]⟩] 23))
  have U1 := Lib.hid (hb.trans ((Below.refl _ _).alloc (Nat.le_refl _) (.cells #[.bool false, .int .i64 0, .string ⟨#[]⟩] 23) |>.mono hb.size))
  clear hb
  rw [NO.out, gotV]
  go_wp2_with fail
  refine (KK.out.get _ _ _ _ (row_nil _) (by decide) NM.out).mono ?_
  rintro e2 w2 ⟨rfl, hb⟩
  have B2 := Lib.hid ((B1.out.trans (hb.mono B1.out.size)).alloc (B1.out.trans (hb.mono B1.out.size)).size (.cells #[.bool false, .int .i64 0, .string ⟨#[]⟩] 23))
  have U2 := Lib.hid (U1.out.trans ((hb.trans ((Below.refl _ _).alloc (Nat.le_refl _) (.cells #[.bool false, .int .i64 0, .string ⟨#[]⟩] 23) |>.mono hb.size)).mono U1.out.size))
  clear hb U1
  rw [show getA [] nm_ = none from rfl, gotV]
  cases r
  · have e : (y.length : Int) = l.length + 1 := by have := YL.out; simp at this; omega
    go_wp2_with fail
    refine (KK.out.same _ _ _ _ _ (HY.out.on U2.out) (HZ.out.on U2.out) (by omega) (by omega)).mono ?_
    rintro e3 w3 ⟨rfl, hb⟩
    have B3 := Lib.hid (B2.out.trans (hb.mono B2.out.size))
    clear hb
    rw [sameL_refl]
    go_wp2_with fail
    refine (KK.out.say _ [] _ (KK.out.bel _ _ HG.out B3.out) (row_nil _) ⟨by decide, fun x hx => by cases hx⟩).mono ?_
    rintro e4 w4 ⟨rfl, hb⟩
    have B4 := Lib.hid (B3.out.trans (hb.mono B3.out.size))
    clear hb
    rw [show (sayA []).toArray = #[] from rfl]
    have B4a := Lib.hid (B4.out.alloc B4.out.size (.cells #[] 25))
    go_wp2_with fail
    refine (KK.out.same _ _ [] [] _ (row_nil _) (row_empty _ _ _ (by decide)) (by decide) (by decide)).mono ?_
    rintro e5 w5 ⟨rfl, hb⟩
    have B5 := Lib.hid (B4a.out.trans (hb.mono B4a.out.size))
    clear hb
    rw [show sameL [] [] = true from rfl]
    go_wp2_with fail
    refine (truns_any KK.out _ (KK.out.bel _ _ HG.out B5.out)).mono ?_
    rintro e6 w6 ⟨rfl, hb⟩
    have B6 := Lib.hid (B5.out.trans (hb.mono B5.out.size))
    clear hb
    go_wp2
    go_ret
    exact ⟨rfl, B6.out⟩
  · have e : (y.length : Int) = l.length := by have := YL.out; simp at this; omega
    go_wp2_with fail
    refine (KK.out.same _ _ _ _ _ (HY.out.on U2.out) (HZ.out.on U2.out) (by omega) (by omega)).mono ?_
    rintro e3 w3 ⟨rfl, hb⟩
    have B3 := Lib.hid (B2.out.trans (hb.mono B2.out.size))
    clear hb
    rw [sameL_refl]
    go_wp2_with fail
    refine (KK.out.say _ [] _ (KK.out.bel _ _ HG.out B3.out) (row_nil _) ⟨by decide, fun x hx => by cases hx⟩).mono ?_
    rintro e4 w4 ⟨rfl, hb⟩
    have B4 := Lib.hid (B3.out.trans (hb.mono B3.out.size))
    clear hb
    rw [show (sayA []).toArray = #[] from rfl]
    have B4a := Lib.hid (B4.out.alloc B4.out.size (.cells #[] 25))
    go_wp2_with fail
    refine (KK.out.same _ _ [] [] _ (row_nil _) (row_empty _ _ _ (by decide)) (by decide) (by decide)).mono ?_
    rintro e5 w5 ⟨rfl, hb⟩
    have B5 := Lib.hid (B4a.out.trans (hb.mono B4a.out.size))
    clear hb
    rw [show sameL [] [] = true from rfl]
    go_wp2_with fail
    refine (truns_any KK.out _ (KK.out.bel _ _ HG.out B5.out)).mono ?_
    rintro e6 w6 ⟨rfl, hb⟩
    have B6 := Lib.hid (B5.out.trans (hb.mono B5.out.size))
    clear hb
    go_wp2
    go_ret
    exact ⟨rfl, B6.out⟩

/-- A string's '!='. -/
theorem neq_same (s : ByteArray) : (s.toList == s.toList) = true := beq_self_eq_true _
set_option maxRecDepth 100000 in
set_option maxHeartbeats 8000000 in
theorem gets_loop {G : World → Prop} (K : Oks G) (Q : Exit → Act → World → Prop) (W : World) (lv yv : Value) (l y : List A4) (nm_ : ByteArray) (hl : RowA W lv l) (hy : RowA W yv y) (l5 : l.length ≤ 5) (yl : y.length ≤ 6) (hsz : ∀ x ∈ l, x.1.size ≤ 100)
    (hget : ∀ x ∈ l, ∃ v, getA y x.1 = some v ∧ (x.1 ≠ nm_ → v = x.2))
    (u0 u1 u2 u3 u4 u5 u6 u7 u8 u9 u11 u13 u14 u15 u16 u17 u18 u19 u20 u21 u22 u23 u24 u25 u26 u27 u28 u29 u30 u31 u32 u33 u34 u35 u36 u37 u38 u39 u40 u41 u42 u43 u44 u45 u46 u47 u48 u49 u50 u51 u52 u56 u57 u58 u59 u60 u61 u62 u63 u64 u65 u66 u67 u68 u69 u70 u71 u72 u73 u74 u75 u76 u77 u78 u79 u80 u81 u82 u83 u84 u85 u86 u87 u88 u89 u90 u91 u92 u93 u94 u95 u96 u97 u98 u99 u100 u101 u102 u103 u104 u105 u106 u107 u108 u109 u110 u111 u112 u113 u114 u115 u116 u117 u118 u119 u120 u121 u122 : Value)
    (hQ : ∀ (w' : World) (u8 u17 u18 u19 u55 u56 u57 u58 u59 u60 u61 u62 u63 u64 u65 u66 u67 u68 u69 u70 u71 u72 u73 u74 u75 u76 u77 u78 u79 u80 : Value), Below W.heap.size W w' → Q .normal ⟨#[u0, u1, u2, u3, u4, u5, u6, u7, u8, u9, .string nm_, u11, yv, u13, u14, u15, u16, u17, u18, u19, u20, u21, u22, u23, u24, u25, u26, u27, u28, u29, u30, u31, u32, u33, u34, u35, u36, u37, u38, u39, u40, u41, u42, u43, u44, u45, u46, u47, u48, u49, u50, u51, u52, lv, .int .i64 l.length, u55, u56, u57, u58, u59, u60, u61, u62, u63, u64, u65, u66, u67, u68, u69, u70, u71, u72, u73, u74, u75, u76, u77, u78, u79, u80, u81, u82, u83, u84, u85, u86, u87, u88, u89, u90, u91, u92, u93, u94, u95, u96, u97, u98, u99, u100, u101, u102, u103, u104, u105, u106, u107, u108, u109, u110, u111, u112, u113, u114, u115, u116, u117, u118, u119, u120, u121, u122], []⟩ w') :
    Code.wp Tryd.prog getsB Q ⟨#[u0, u1, u2, u3, u4, u5, u6, u7, u8, u9, .string nm_, u11, yv, u13, u14, u15, u16, u17, u18, u19, u20, u21, u22, u23, u24, u25, u26, u27, u28, u29, u30, u31, u32, u33, u34, u35, u36, u37, u38, u39, u40, u41, u42, u43, u44, u45, u46, u47, u48, u49, u50, u51, u52, lv, .int .i64 l.length, .int .i64 0, u56, u57, u58, u59, u60, u61, u62, u63, u64, u65, u66, u67, u68, u69, u70, u71, u72, u73, u74, u75, u76, u77, u78, u79, u80, u81, u82, u83, u84, u85, u86, u87, u88, u89, u90, u91, u92, u93, u94, u95, u96, u97, u98, u99, u100, u101, u102, u103, u104, u105, u106, u107, u108, u109, u110, u111, u112, u113, u114, u115, u116, u117, u118, u119, u120, u121, u122], []⟩ W := by
  have KK := Lib.hid K
  have HQ := Lib.hid hQ
  have HL := Lib.hid hl
  have HY := Lib.hid hy
  have HG := Lib.hid hget
  have HZ := Lib.hid hsz
  obtain ⟨lo, lc, rfl⟩ := hl.len
  clear K hQ hl hy hget hsz
  conv => arg 2; whnf
  go_wp2
  go_loopw [55] (fun i wr => ∃ k : Nat, k ≤ l.length ∧ i = .int .i64 k ∧ Below W.heap.size W wr) (fun i _ => l.length - (intOf i).toNat)
  case atStart => exact ⟨0, Nat.zero_le _, rfl, Below.refl _ _⟩
  case round =>
    obtain ⟨k, hk, rfl, hb⟩ := hrel
    have HB := Lib.hid hb
    clear hb
    by_cases hlt : k < l.length
    · obtain ⟨⟨xn, xt, xi, xs⟩, hx⟩ : ∃ x, l[k]? = some x := ⟨_, List.getElem?_eq_getElem hlt⟩
      obtain ⟨p, ix, px⟩ := row_cells HL.out rfl rfl hx
      obtain ⟨p0, p1, p2, p3⟩ := px _ HB.out
      obtain ⟨⟨vt, vi, vs⟩, hv, hvx⟩ := HG.out _ (List.mem_of_getElem? hx)
      have hxs := HZ.out _ (List.mem_of_getElem? hx)
      have HV := Lib.hid hv
      have HVX := Lib.hid hvx
      have XS := Lib.hid (show xn.size ≤ maxLen by unfold maxLen; simp only at hxs; omega)
      have B4 := Lib.hid (HB.out.alloc HB.out.size (.cells #[.string xn, .bool xt, .int .i64 xi, .string xs] 25))
      clear hx px hv hvx hxs
      simp only at p0 p1 p2 p3
      go_wp2_with fail
      refine (KK.out.get _ _ xn _ (HY.out.on B4.out) (by omega) XS.out).mono ?_
      rintro e5 w5 ⟨rfl, hb⟩
      have c4 : ∀ i, w5.cell? ⟨wr.heap.size, i, none⟩ = #[.string xn, .bool xt, .int .i64 xi, .string xs][i]? := fun i => by
        rw [hb.cell (p := ⟨wr.heap.size, i, none⟩) (by simp), World.cell?_alloc_at _ _ _ _ rfl]
      have hs5 := hb.size
      have B5 := Lib.hid ((B4.out.trans (hb.mono B4.out.size)).alloc (B4.out.trans (hb.mono B4.out.size)).size (.cells #[.bool vt, .int .i64 vi, .string vs] 23))
      have a0 : (w5.alloc (.cells #[.bool vt, .int .i64 vi, .string vs] 23)).cell? ⟨wr.heap.size, 0, none⟩ = some (.string xn) := by rw [World.cell?_alloc_lt _ _ _ (by simp at hs5 ⊢; omega)]; exact c4 0
      have a1 : (w5.alloc (.cells #[.bool vt, .int .i64 vi, .string vs] 23)).cell? ⟨wr.heap.size, 1, none⟩ = some (.bool xt) := by rw [World.cell?_alloc_lt _ _ _ (by simp at hs5 ⊢; omega)]; exact c4 1
      have a2 : (w5.alloc (.cells #[.bool vt, .int .i64 vi, .string vs] 23)).cell? ⟨wr.heap.size, 2, none⟩ = some (.int .i64 xi) := by rw [World.cell?_alloc_lt _ _ _ (by simp at hs5 ⊢; omega)]; exact c4 2
      have a3 : (w5.alloc (.cells #[.bool vt, .int .i64 vi, .string vs] 23)).cell? ⟨wr.heap.size, 3, none⟩ = some (.string xs) := by rw [World.cell?_alloc_lt _ _ _ (by simp at hs5 ⊢; omega)]; exact c4 3
      rw [HV.out, gotV]
      clear hb p0 p1 p2 p3 ix c4 hs5
      by_cases he : xn = nm_
      · have hn : (xn.toList == nm_.toList) = true := by rw [he]; exact neq_same _
        have HE := Lib.hid he
        clear he
        go_wp2
        go_roundw
        case rel => exact ⟨k + 1, by omega, by go_num, B5.out⟩
        case measure => simp [intOf]; omega
      · have hn : (xn.toList == nm_.toList) = false := by rw [beq_eq_false_iff_ne]; exact fun h => he (name_inj h)
        have hvv := HVX.out he
        simp only [Prod.mk.injEq] at hvv
        obtain ⟨rfl, rfl, rfl⟩ := hvv
        have ne := neqV vt vi vs vt vi vs true (by simp [eqlV])
        simp only [Bool.not_true] at ne
        have HE := Lib.hid he
        clear he
        go_wp2
        go_roundw
        case rel => exact ⟨k + 1, by omega, by go_num, B5.out⟩
        case measure => simp [intOf]; omega
    · obtain rfl : k = l.length := by omega
      go_wp2
      exact HQ.out wr _ _ _ _ _ _ _ _ _ _ _ _ _ _ _ _ _ _ _ _ _ _ _ _ _ _ _ _ _ _ HB.out
end Go.Proofs.YtpmhnmdienlgoaaDoor.At
