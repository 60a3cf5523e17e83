/-
  The law TupleTells: it answers true at any attributes, of numbers or raw, and any name. Condition: strconv's table of powers of ten is as its text lays it; lists and texts no longer than a machine holds.
-/
import Derived.Test.YtpmhnmdienlgoaaDoorTuAll
import Derived.Test.YtpmhnmdienlgoaaDoorTuRoomy
import Derived.Test.YtpmhnmdienlgoaaDoorTuOpen
import Derived.Test.YtpmhnmdienlgoaaDoorAtIntact
namespace Go.Proofs.YtpmhnmdienlgoaaDoor.At
open Go.RowKit Go.Sort Go.Proofs.YtpmhnmdienlgoaaDoor.Va Go.Proofs.YtpmhnmdienlgoaaDoor.In Go.Proofs.YtpmhnmdienlgoaaDoor.Rg

noncomputable def tellsB0 : Code := ((Tryd.f4.body.bind (findBlock 0)).getD .skip)
noncomputable def tells5 : Code := afterN 5 (Tryd.f4.body.getD .skip)
/-- What is wanted: the value that is got, else nothing. -/
def w3 (o : Option V3) : V3 := o.getD (false, 0, ⟨#[]⟩)
theorem gotV_w3 (o : Option V3) : gotV o = .tuple #[vl (w3 o).1 (w3 o).2.1 (w3 o).2.2, .bool o.isSome] := by
  cases o <;> rfl
theorem getA_snoc : ∀ (l : List A4) (x : A4) (n : ByteArray), getA (l ++ [x]) n = (match getA l n with | some v => some v | none => if x.1 = n then some x.2 else none)
  | [], x, n => by simp [getA]
  | y :: r, x, n => by
    simp only [List.cons_append, getA]
    split
    · rfl
    · exact getA_snoc r x n
theorem getA_take (l : List A4) (k : Nat) (x : A4) (n : ByteArray) (h : l[k]? = some x) : getA (l.take (k + 1)) n = (match getA (l.take k) n with | some v => some v | none => if x.1 = n then some x.2 else none) := by
  obtain ⟨hk, e⟩ := List.getElem?_eq_some_iff.1 h
  rw [List.take_succ_eq_append_getElem hk, getA_snoc, e]

set_option maxRecDepth 100000 in
set_option maxHeartbeats 8000000 in
theorem tells_loop (Q : Exit → Act → World → Prop) (W0 W : World) (lv : Value) (l : List A4) (n : ByteArray) (hl : RowA W0 lv l) (hb : Below W0.heap.size W0 W) (hx : BoxV W W0.heap.size false 0 ⟨#[]⟩) (h5 : l.length ≤ 100)
    (u0 u1 u2 u4 u5 u6 u7 u8 u9 u12 u13 u14 u15 u16 u17 u18 u19 u20 u21 u22 u23 u24 u25 u26 u27 u31 u32 u33 u34 u35 u36 u37 u38 u39 u40 u41 u42 u43 u44 u45 u46 u47 u48 u49 u50 u51 u52 u53 u54 u55 u56 u57 u58 u59 u60 u61 u62 u63 u64 u65 u66 u67 u68 u69 u70 u71 u72 u73 u74 u75 u76 u77 u78 u79 u80 u81 u82 u83 u84 u85 u86 u87 u88 u89 u90 u91 u92 u93 u94 u95 : Value)
    (hQ : ∀ (w' : World) (u13 u30 u31 u32 u33 u34 u35 u36 u37 u38 u39 u40 u41 u42 u43 u44 : Value), Below W0.heap.size W0 w' → BoxV w' W0.heap.size (w3 (getA l n)).1 (w3 (getA l n)).2.1 (w3 (getA l n)).2.2 → Q .normal ⟨#[u0, u1, u2, .string n, u4, u5, u6, u7, u8, u9, .pointer (some ⟨W0.heap.size, 0, none⟩), .bool (getA l n).isSome, u12, u13, u14, u15, u16, u17, u18, u19, u20, u21, u22, u23, u24, u25, u26, u27, lv, .int .i64 l.length, u30, u31, u32, u33, u34, u35, u36, u37, u38, u39, u40, u41, u42, u43, u44, u45, u46, u47, u48, u49, u50, u51, u52, u53, u54, u55, u56, u57, u58, u59, u60, u61, u62, u63, u64, u65, u66, u67, u68, u69, u70, u71, u72, u73, u74, u75, u76, u77, u78, u79, u80, u81, u82, u83, u84, u85, u86, u87, u88, u89, u90, u91, u92, u93, u94, u95], []⟩ w') :
    Code.wp Tryd.prog tellsB0 Q ⟨#[u0, u1, u2, .string n, u4, u5, u6, u7, u8, u9, .pointer (some ⟨W0.heap.size, 0, none⟩), .bool false, u12, u13, u14, u15, u16, u17, u18, u19, u20, u21, u22, u23, u24, u25, u26, u27, lv, .int .i64 l.length, .int .i64 0, u31, u32, u33, u34, u35, u36, u37, u38, u39, u40, u41, u42, u43, u44, u45, u46, u47, u48, u49, u50, u51, u52, u53, u54, u55, u56, u57, u58, u59, u60, u61, u62, u63, u64, u65, u66, u67, u68, u69, u70, u71, u72, u73, u74, u75, u76, u77, u78, u79, u80, u81, u82, u83, u84, u85, u86, u87, u88, u89, u90, u91, u92, u93, u94, u95], []⟩ W := by
  have HQ := Lib.hid hQ
  have HL := Lib.hid hl
  have H0 := Lib.hid hb
  have HX0 := Lib.hid hx
  obtain ⟨lo, lc, rfl⟩ := hl.len
  clear hQ hl hb hx
  conv => arg 2; whnf
  go_wp2
  go_loopw [11, 30] (fun b i wr => ∃ k : Nat, k ≤ l.length ∧ i = .int .i64 k ∧ b = .bool (getA (l.take k) n).isSome ∧ Below W0.heap.size W0 wr ∧ BoxV wr W0.heap.size (w3 (getA (l.take k) n)).1 (w3 (getA (l.take k) n)).2.1 (w3 (getA (l.take k) n)).2.2) (fun _ i _ => l.length - (intOf i).toNat)
  case atStart => exact ⟨0, Nat.zero_le _, rfl, rfl, H0.out, HX0.out⟩
  case round =>
    obtain ⟨k, hk, rfl, rfl, hb, hx⟩ := hrel
    have HB := Lib.hid hb
    have HT := Lib.hid hx
    clear hb hx
    by_cases hlt : k < l.length
    · obtain ⟨⟨xn, xt, xi, xs⟩, hx⟩ : ∃ x, l[k]? = some x := ⟨_, List.getElem?_eq_getElem hlt⟩
      obtain ⟨p, ix, px⟩ := row_cells HL.out rfl rfl hx
      obtain ⟨p0, p1, p2, p3⟩ := px _ HB.out
      have GT := Lib.hid (getA_take l k _ n hx)
      have B4 := Lib.hid (HB.out.alloc HB.out.size (.cells #[.string xn, .bool xt, .int .i64 xi, .string xs] 25))
      clear hx px
      simp only at p0 p1 p2 p3
      obtain ⟨o, ho⟩ : ∃ o, getA (l.take k) n = o := ⟨_, rfl⟩
      rw [ho] at HT GT ⊢
      have HO := Lib.hid ho
      clear ho
      have T4 := Lib.hid (HT.out.more (.cells #[.string xn, .bool xt, .int .i64 xi, .string xs] 25))
      by_cases he : xn = n
      · have hn : (xn.toList == n.toList) = true := by rw [he]; exact beq_self_eq_true _
        have HE := Lib.hid he
        clear he
        cases o with
        | some v =>
          have G := Lib.hid (show getA (l.take (k + 1)) n = some v from GT.out)
          rw [show (some v).isSome = true from rfl]
          go_wp2
          go_roundw
          case rel => exact ⟨k + 1, by omega, by go_num, by rw [G.out]; rfl, B4.out, by rw [G.out]; exact T4.out⟩
          case measure => simp [intOf]; omega
        | none =>
          have G := Lib.hid (show getA (l.take (k + 1)) n = some (xt, xi, xs) by rw [GT.out]; simp [HE.out])
          rw [show (none : Option V3).isSome = false from rfl]
          have c0 := HT.out.cell 0
          have c1 := HT.out.cell 1
          have c2 := HT.out.cell 2
          have f0 := HT.out.fr 0
          have f1 := HT.out.fr 1
          have f2 := HT.out.fr 2
          have hlt4 := HT.out.lt
          simp at c0 c1 c2
          have T5 := Lib.hid ((HT.out.set3 xt xi xs).more (.cells #[.string xn, .bool xt, .int .i64 xi, .string xs] 25))
          have B5 := Lib.hid ((below_setV HB.out (Nat.le_refl _) xt xi xs).alloc (below_setV HB.out (Nat.le_refl _) xt xi xs).size (.cells #[.string xn, .bool xt, .int .i64 xi, .string xs] 25))
          unfold setV at T5 B5
          go_wp2
          go_roundw
          case rel => exact ⟨k + 1, by omega, by go_num, by rw [G.out]; rfl, B5.out, by rw [G.out]; exact T5.out⟩
          case measure => simp [intOf]; omega
      · have hn : (xn.toList == n.toList) = false := by rw [beq_eq_false_iff_ne]; exact fun h => he (name_inj h)
        have G := Lib.hid (show getA (l.take (k + 1)) n = o by rw [GT.out]; cases o <;> simp [he])
        have HE := Lib.hid he
        clear he
        go_wp2
        go_roundw
        case rel => exact ⟨k + 1, by omega, by go_num, by rw [G.out], B4.out, by rw [G.out]; exact T4.out⟩
        case measure => simp [intOf]; omega
    · obtain rfl : k = l.length := by omega
      have E := List.take_of_length_le (Nat.le_refl l.length)
      rw [E] at HT ⊢
      go_wp2
      exact HQ.out _ _ _ _ _ _ _ _ _ _ _ _ _ _ _ _ _  HB.out HT.out

set_option maxRecDepth 100000 in
set_option maxHeartbeats 8000000 in
theorem tells_tail (w W : World) (bw : Nat) (lv : Value) (l : List A4) (n : ByteArray) (hg : VG w) (hb : Below w.heap.size w W) (hl : RowA W lv l) (h5 : l.length ≤ 7) (hs : ∀ x ∈ l, x.1.size ≤ maxLen ∧ x.2.2.2.size ≤ maxLen) (hn : n.size ≤ maxLen)
    (hx : BoxV W bw (w3 (getA l n)).1 (w3 (getA l n)).2.1 (w3 (getA l n)).2.2)
    (u0 u1 u2 u4 u5 u6 u7 u8 u12 u13 u14 u15 u16 u17 u18 u19 u20 u21 u22 u23 u24 u25 u26 u27 u28 u29 u30 u31 u32 u33 u34 u35 u36 u37 u38 u39 u40 u41 u42 u43 u44 u45 u46 u47 u48 u49 u50 u51 u52 u53 u54 u55 u56 u57 u58 u59 u60 u61 u62 u63 u64 u65 u66 u67 u68 u69 u70 u71 u72 u73 u74 u75 u76 u77 u78 u79 u80 u81 u82 u83 u84 u85 u86 u87 u88 u89 u90 u91 u92 u93 u94 u95 : Value) :
    Code.wp Tryd.prog tells5 (bodyPost Tryd.prog Tryd.f4 (GetsQ w)) ⟨#[u0, u1, u2, .string n, u4, u5, u6, u7, u8, lv, .pointer (some ⟨bw, 0, none⟩), .bool (getA l n).isSome, u12, u13, u14, u15, u16, u17, u18, u19, u20, u21, u22, u23, u24, u25, u26, u27, u28, u29, u30, u31, u32, u33, u34, u35, u36, u37, u38, u39, u40, u41, u42, u43, u44, u45, u46, u47, u48, u49, u50, u51, u52, u53, u54, u55, u56, u57, u58, u59, u60, u61, u62, u63, u64, u65, u66, u67, u68, u69, u70, u71, u72, u73, u74, u75, u76, u77, u78, u79, u80, u81, u82, u83, u84, u85, u86, u87, u88, u89, u90, u91, u92, u93, u94, u95], []⟩ W := by
  have HG := Lib.hid hg
  have B0 := Lib.hid hb
  have L0 := Lib.hid hl
  have HS := Lib.hid hs
  have HN := Lib.hid hn
  have X0 := Lib.hid hx
  obtain ⟨lo, lc, rfl⟩ := hl.len
  clear hg hb hl hs hn hx
  conv => arg 2; whnf
  go_wp2_with fail
  refine (getOk _ l n _ L0.out (by omega) HN.out).mono ?_
  rintro e1 w1 ⟨rfl, hb⟩
  rw [gotV_w3]
  generalize (w3 (getA l n)).1 = vt at X0 ⊢
  generalize (w3 (getA l n)).2.1 = vi at X0 ⊢
  generalize (w3 (getA l n)).2.2 = vs at X0 ⊢
  generalize (getA l n).isSome = r
  have U1 := Lib.hid (hb.trans ((Below.refl w1.heap.size w1).alloc (Nat.le_refl _) (.cells #[.bool vt, .int .i64 vi, .string vs] 23) |>.mono hb.size))
  have B1 := Lib.hid (B0.out.trans (U1.out.mono B0.out.size))
  have L1 := Lib.hid (L0.out.on U1.out)
  have X1 := Lib.hid (X0.out.on U1.out)
  have Y1 := Lib.hid (box_new w1 vt vi vs)
  clear hb U1 L0 X0 B0
  go_wp2_with fail
  generalize w1.alloc (.cells #[.bool vt, .int .i64 vi, .string vs] 23) = w2 at *
  refine (roomy_any _ l (⟨#[113]⟩, false, 0, ⟨#[]⟩) w2 L1.out (by omega)).mono ?_
  rintro e3 w3_ ⟨g, rfl, hown, hb⟩
  have B3 := Lib.hid (B1.out.trans (hb.mono B1.out.size))
  have L3 := Lib.hid (L1.out.on hb)
  have X3 := Lib.hid (X1.out.on hb)
  have Y3 := Lib.hid (Y1.out.on hb)
  have F3 := Lib.hid (show RowA w3_ (.slice (some ⟨g, 0, none⟩) (l.length + 80) (l.length + 80)) (l ++ List.replicate 80 (⟨#[113]⟩, false, 0, ⟨#[]⟩)) from RowA.of_owns (B := w2.heap.size) (by simpa using hown))
  have T3 := Lib.hid (show RowA w3_ (.slice (some ⟨g, 0, none⟩) l.length (l.length + 80)) l by have h := row_take F3.out (k := l.length) (by simp); simpa using h)
  have SL := slice_loA ⟨g, 0, none⟩ l.length (l.length + 80) (l.length + 80) (by omega) (Nat.le_refl _)
  clear hb hown B1 L1 X1 Y1
  go_wp2_with fail
  refine (right_big _ l w3_ T3.out (by omega) HS.out).mono ?_
  rintro e4 w4 ⟨rfl, hb⟩
  have B4 := Lib.hid (B3.out.trans (hb.mono B3.out.size))
  have L4 := Lib.hid (L3.out.on hb)
  have X4 := Lib.hid (X3.out.on hb)
  have Y4 := Lib.hid (Y3.out.on hb)
  have F4 := Lib.hid (F3.out.on hb)
  have T4 := Lib.hid (T3.out.on hb)
  clear hb B3 L3 X3 Y3 F3 T3
  go_wp2_with fail
  refine (rtuple_any _ l w4 L4.out (by omega) HS.out).mono ?_
  rintro e5 w5 ⟨rfl, hb⟩
  have B5 := Lib.hid (B4.out.trans (hb.mono B4.out.size))
  have L5 := Lib.hid (L4.out.on hb)
  have F5 := Lib.hid (F4.out.on hb)
  have T5 := Lib.hid (T4.out.on hb)
  have x5 := X4.out.on hb
  have y5 := Y4.out.on hb
  have c0 := x5.cell 0
  have c1 := x5.cell 1
  have c2 := x5.cell 2
  have d0 := y5.cell 0
  have d1 := y5.cell 1
  have d2 := y5.cell 2
  simp at c0 c1 c2 d0 d1 d2
  have ev := eqV vt vi vs vt vi vs true (by simp [eqlV])
  clear hb B4 L4 X4 Y4 F4 T4 x5 y5
  generalize rightT l = rr
  go_wp2_with fail
  clear c0 c1 c2 d0 d1 d2 ev
  refine (name_same n w5 HN.out).mono ?_
  rintro e6 w6 ⟨rfl, rfl⟩
  go_wp2_with fail
  refine (rname_any n w5 HN.out).mono ?_
  rintro e7 w7 ⟨rfl, rfl⟩
  generalize nameB n = nb
  go_wp2_with fail
  refine (sameOk _ _ l l w5 L5.out T5.out (by omega) (by omega)).mono ?_
  rintro e8 w8 ⟨rfl, hb⟩
  have B8 := Lib.hid (B5.out.trans (hb.mono B5.out.size))
  have L8 := Lib.hid (L5.out.on hb)
  have F8 := Lib.hid (F5.out.on hb)
  clear hb B5 L5 F5 T5 SL
  rw [sameL_refl]
  go_wp2_with fail
  refine (intact_any _ _ _ l (⟨#[113]⟩, false, 0, ⟨#[]⟩) w8 F8.out L8.out (by omega)).mono ?_
  rintro e9 w9 ⟨rfl, hb⟩
  have B9 := Lib.hid (B8.out.trans (hb.mono B8.out.size))
  clear hb
  go_wp2_with fail
  refine (truns_any oks w9 (HG.out.bel B9.out)).mono ?_
  rintro e10 w10 ⟨rfl, hb⟩
  have B10 := Lib.hid (B9.out.trans (hb.mono B9.out.size))
  clear hb
  go_wp2
  go_ret
  exact ⟨rfl, B10.out⟩
end Go.Proofs.YtpmhnmdienlgoaaDoor.At
