/-
  What a store into a map of IDs leaves: variables, rows, brokers. No program's function in it.
  Chapter 9's second law: AdvertsOnce. Under way.
-/
import Derived.Test.YtonoadjmglkhaaaQ041
import Derived.Test.YtonoadjmglkhaaaQ025
import Derived.Test.YtonoadjmglkhaaaQ040
import Derived.Test.YtonoadjmglkhaaaQ043
import Derived.Test.YtonoadjmglkhaaaQ038
namespace Go.Proofs.Ytonoadjmglkhaaa.Av
open Go.RowKit Go.Sort Go.Proofs.Ytonoadjmglkhaaa Go.Proofs.Ytonoadjmglkhaaa.Rw Go.Proofs.Ytonoadjmglkhaaa.Nm Go.Proofs.Ytonoadjmglkhaaa.Pr Go.Proofs.Ytonoadjmglkhaaa.Bk

theorem but_grown {W W' : World} {b : Nat} (h : W.grownBy W' (some b)) : But b W W' := ⟨fun k hk hne => h.block k hk (by simpa using hne), h.size⟩
theorem InMap.isMap {W : World} {b : Nat} {s : List XID} (h : InMap W b s) : ∃ es clock, W.heap[b]? = some (.map es clock) := by
  obtain ⟨n, D, _, ⟨es, clock, h2, _⟩, _⟩ := h
  exact ⟨es, clock, h2⟩
theorem InMap.noBox {W : World} {b c : Nat} {s : List XID} {cs : Array Value} {t : TypeId} (h : InMap W b s) (hb : Box W c cs t) : c ≠ b := by
  rintro rfl
  obtain ⟨es, clock, h2⟩ := h.isMap
  unfold Box at hb
  rw [h2] at hb
  cases hb
theorem InMap.noCell {W : World} {b : Nat} {s : List XID} (h : InMap W b s) {a : Addr} {v : Value} (hc : W.cell? a = some v) : a.block ≠ b := by
  rintro rfl
  obtain ⟨es, clock, h2⟩ := h.isMap
  unfold World.cell? at hc
  rw [h2] at hc
  simp at hc
theorem Box.map {W W' : World} {b c : Nat} {s : List XID} {cs : Array Value} {t : TypeId} (hb : Box W c cs t) (h : InMap W b s) (hk : But b W W') : Box W' c cs t := hk.box hb (h.noBox hb)
theorem noRow {α : Type} {E : Ek α} {W : World} {b : Nat} {s : List XID} (h : InMap W b s) (hE : ∀ c : α, ∃ v, (E.cells c)[0]? = some v) (a : Addr) (c : α) (hc : ∀ j u, (E.cells c)[j]? = some u → W.cell? (a.add j) = some u) : a.block ≠ b := by
  obtain ⟨v, hv⟩ := hE c
  have := h.noCell (hc 0 v hv)
  rwa [add_blk] at this
theorem BrN.map {W W' : World} {m : Nat} {s : List XID} {b : Br} {nv av sv ev ov : Sl} (h : BrN W b nv av sv ev ov) (hm : InMap W m s) (hk : But m W W') : BrN W' b nv av sv ev ov := by
  obtain ⟨B, hn⟩ := h.no
  have hn2 : OwnI W' B (slv nv) b.near := by
    refine ⟨hn.1, ?_⟩
    rcases hn.2 with h2 | ⟨g', cap, cur, h1, h2, h3, h4⟩
    · exact Or.inl h2
    · exact Or.inr ⟨g', cap, cur, h1, h2, by rw [hk.1 g' (lt_of_heap h3) (hm.noBox (show Box W g' cur _ from h3))]; exact h3, h4⟩
  have R := fun {α : Type} {E : Ek α} (K : E.Ok) (hE : ∀ c : α, ∃ v, (E.cells c)[0]? = some v) {v : Value} {l : List α} (hr : Row E W v l) => row_keep K hr hk.1 (noRow hm hE)
  refine ⟨⟨Row.of_own hn2, ?_, R okJ (fun c => ⟨_, rfl⟩) h.br.seen, ?_, ?_⟩, B, hn2⟩
  · obtain ⟨l, h1, h2⟩ := h.br.adv
    exact ⟨l, R okD (fun c => ⟨_, rfl⟩) h1, h2.mono fun x a hx => ⟨hx.1, hx.2.1, R okC (fun c => ⟨_, rfl⟩) hx.2.2⟩⟩
  · obtain ⟨l, h1, h2⟩ := h.br.ent
    exact ⟨l, R okN (fun c => ⟨_, rfl⟩) h1, h2.mono fun x a hx => ⟨hx.1, hx.2.1, hx.2.2.1, hx.2.2.2.1, R okC (fun c => ⟨_, rfl⟩) hx.2.2.2.2⟩⟩
  · obtain ⟨l, h1, h2⟩ := h.br.own
    exact ⟨l, R okW (fun c => ⟨_, rfl⟩) h1, h2.mono fun x a hx => ⟨hx.1, R okC (fun c => ⟨_, rfl⟩) hx.2⟩⟩
theorem but_below {W0 W W' : World} {b B : Nat} (h : Below B W0 W) (hg : W.grownBy W' (some b)) (hb : B ≤ b) (hl : b < W.heap.size) : Below B W0 W' :=
  h.grown hg (Nat.le_of_lt (Nat.lt_of_le_of_lt hb hl)) (fun j hj => by cases hj; exact hb)
/-- A store into a broker's variable leaves a map. -/
theorem InMap.keep {W W' : World} {m k : Nat} {s : List XID} {cs : Array Value} {t : TypeId} (h : InMap W m s) (hb : Box W k cs t) (hk : But k W W') : InMap W' m s := h.of_block (hk.1 m h.lt (h.noBox hb).symm)
end Go.Proofs.Ytonoadjmglkhaaa.Av

namespace Go.Proofs.Ytonoadjmglkhaaa.Av
open Go.RowKit Go.Sort Go.Proofs.Ytonoadjmglkhaaa Go.Proofs.Ytonoadjmglkhaaa.Rw Go.Proofs.Ytonoadjmglkhaaa.Nm Go.Proofs.Ytonoadjmglkhaaa.Pr Go.Proofs.Ytonoadjmglkhaaa.Bk

theorem one_more (w : World) (o : Obj) : w.heap.size + 1 = (w.alloc o).heap.size := by simp
set_option maxRecDepth 100000 in
set_option maxHeartbeats 16000000 in
theorem once_any (o1 : Option Addr) (n1 c1 : Nat) (o2 : Option Addr) (n2 c2 : Nat) (h1 : Option Addr) (h2 h3 : Nat) (g1 : Option Addr) (g2 g3 : Nat) (cs ss has vals : List Int) (w : World)
    (ic : In.InInts w (.slice o1 n1 c1) cs) (is : In.InInts w (.slice o2 n2 c2) ss) (ih : In.InInts w (.slice h1 h2 h3) has) (iv : In.InInts w (.slice g1 g2 g3) vals) (lc : cs.length ≤ maxLen) (ls : ss.length ≤ maxLen) (lh : has.length ≤ maxLen) (lv : vals.length ≤ maxLen) :
    Calls Try.prog 4 #[.slice o1 n1 c1, .slice o2 n2 c2, .agg #[.slice h1 h2 h3, .slice g1 g2 g3]] w fun e w' => e = .returned (.bool true) ∧ Below w.heap.size w w' := by
  obtain rfl : n1 = cs.length := by obtain ⟨_, _, hv⟩ := ic.shape; simpa using congrArg (fun v => match v with | Value.slice _ n _ => n | _ => 0) hv
  obtain rfl : n2 = ss.length := by obtain ⟨_, _, hv⟩ := is.shape; simpa using congrArg (fun v => match v with | Value.slice _ n _ => n | _ => 0) hv
  have n0 := newB w (.cells #[.slice h1 h2 h3, .slice g1 g2 g3] 43)
  have X := Lib.hid (box_new w #[.slice h1 h2 h3, .slice g1 g2 g3] 43)
  have IC := Lib.hid (ic.on n0)
  have IS := Lib.hid (is.on n0)
  have IH := Lib.hid (ih.on n0)
  have IV := Lib.hid (iv.on n0)
  have LC := Lib.hid lc
  have LS := Lib.hid ls
  have LH := Lib.hid lh
  have LV := Lib.hid lv
  have B0 := Lib.hid n0
  clear n0 ic is ih iv lc ls lh lv
  go_enter Try.func4, Try.ntmps4
  go_wp2_with fail
  have SZ : w.heap.size + 1 = (w.alloc (.cells #[.slice h1 h2 h3, .slice g1 g2 g3] 43)).heap.size := one_more _ _
  generalize w.alloc (.cells #[.slice h1 h2 h3, .slice g1 g2 g3] 43) = W at *
  rw [SZ]
  have hl := row_lit Nm.okI W [1, 2] 2 rfl (by simp) #[.int .i64 1, .int .i64 2] (by rfl)
  have N1 := newB W (.cells #[.int .i64 1, .int .i64 2] 3)
  refine (anew_any 5 (some ⟨W.heap.size, 0, none⟩, 2, 2) [1, 2] _ (Row.of_own hl) (by simp)).mono ?_
  rintro e1 w1 ⟨⟨l', ⟨m1, m2, m3⟩, rfl, hbr, ⟨B, ho⟩, hp, hm⟩, hb⟩
  obtain rfl : l' = [1, 2] := rise_uniq hp (by simp) (fun x => hm x)
  have HB1 := N1.trans (hb.mono N1.size)
  have G7 := Lib.hid HB1.size
  have N2 := newB w1 (.cells #[.int .i64 5, .slice m1 m2 m3, .slice none 0 0, .slice none 0 0, .slice none 0 0, .slice none 0 0] 33)
  have X7 := Lib.hid (box_new w1 #[.int .i64 5, .slice m1 m2 m3, .slice none 0 0, .slice none 0 0, .slice none 0 0, .slice none 0 0] 33)
  have BR := Lib.hid (BrN.mk (hbr.on N2) ⟨B, Bk.own_on ho N2⟩)
  have HB := Lib.hid (HB1.trans (N2.mono HB1.size))
  have X8 := Lib.hid (inMap_made (w1.alloc (.cells #[.int .i64 5, .slice m1 m2 m3, .slice none 0 0, .slice none 0 0, .slice none 0 0, .slice none 0 0] 33)))
  have hmm := @run_makeMap Try.prog
  clear hl N1 hbr ho hp hm hb HB1 N2
  go_wp2_with fail
  have SZ1 := one_more w1 (.cells #[.int .i64 5, .slice m1 m2 m3, .slice none 0 0, .slice none 0 0, .slice none 0 0, .slice none 0 0] 33)
  rw [← SZ1] at X8
  have NM := newB (w1.alloc (.cells #[.int .i64 5, .slice m1 m2 m3, .slice none 0 0, .slice none 0 0, .slice none 0 0, .slice none 0 0] 33)) (.map #[] 0)
  have Y7 := Lib.hid (X7.out.on NM)
  have BR1 := Lib.hid (BR.out.on NM)
  have HB1 := Lib.hid (HB.out.trans (NM.mono HB.out.size))
  clear X7 BR HB NM
  generalize ((w1.alloc (.cells #[.int .i64 5, .slice m1 m2 m3, .slice none 0 0, .slice none 0 0, .slice none 0 0, .slice none 0 0] 33)).alloc (.map #[] 0)) = W1 at *
  generalize w1.heap.size = b7 at *
  clear SZ1
  go_loopw [9] (fun i wr => ∃ (k : Nat) (b : Br) (s : List XID) (s1 : Option Addr) (s2 s3 : Nat) (s4 : Option Addr) (s5 s6 : Nat) (s7 : Option Addr) (s8 s9 : Nat) (s10 : Option Addr) (s11 s12 : Nat) (s13 : Option Addr) (s14 s15 : Nat), k ≤ 20 ∧ k ≤ cs.length ∧ k ≤ ss.length ∧ i = .int .i64 k ∧ OnceI b s k ∧ Box wr b7 #[.int .i64 b.me, .slice s1 s2 s3, .slice s4 s5 s6, .slice s7 s8 s9, .slice s10 s11 s12, .slice s13 s14 s15] 33 ∧ BrN wr b (s1, s2, s3) (s4, s5, s6) (s7, s8, s9) (s10, s11, s12) (s13, s14, s15) ∧ InMap wr (b7 + 1) s ∧ Below W.heap.size W wr) (fun i _ => 20 - (intOf i).toNat)
  case atStart => exact ⟨0, newB0 5 [1, 2], [], m1, m2, m3, none, 0, 0, none, 0, 0, none, 0, 0, none, 0, 0, Nat.zero_le _, Nat.zero_le _, Nat.zero_le _, rfl, once_new, Y7.out, BR1.out, X8.out, HB1.out⟩
  case round =>
    obtain ⟨k, b, s, s1, s2, s3, s4, s5, s6, s7, s8, s9, s10, s11, s12, s13, s14, s15, hk, hkc, hks, rfl, ho, hx, hb, hm, hbel⟩ := hrel
    have HO := Lib.hid ho
    have HX := Lib.hid hx
    have HBN := Lib.hid hb
    have HM := Lib.hid hm
    have HL := Lib.hid hbel
    clear ho hx hb hm hbel Y7 BR1 X8 HB1
    by_cases hlt : k < cs.length ∧ k < ss.length ∧ k < 20
    · obtain ⟨hc, hs, h20⟩ := hlt
      obtain ⟨z1, hz1⟩ : ∃ z, cs[k]? = some z := ⟨_, List.getElem?_eq_getElem hc⟩
      obtain ⟨z2, hz2⟩ : ∃ z, ss[k]? = some z := ⟨_, List.getElem?_eq_getElem hs⟩
      obtain ⟨d1, p1, l1, i1, q1⟩ := IC.out.at_ k z1 hz1
      obtain ⟨d2, p2, l2, i2, q2⟩ := IS.out.at_ k z2 hz2
      have D1 := Lib.hid d1
      have D2 := Lib.hid d2
      have I1 := Lib.hid i1
      have I2 := Lib.hid i2
      have K1 := Lib.hid (show ∀ x, Below wr.heap.size wr x → x.cell? p1 = some (.int .i64 z1) from fun x hb => by rw [(HL.out.trans (hb.mono HL.out.size)).cell l1]; exact q1)
      have K2 := Lib.hid (show ∀ x, Below wr.heap.size wr x → x.cell? p2 = some (.int .i64 z2) from fun x hb => by rw [(HL.out.trans (hb.mono HL.out.size)).cell l2]; exact q2)
      clear hz1 hz2 d1 d2 i1 i2 l1 l2 q1 q2
      have hc' : (k : Int) < (cs.length : Int) := by omega
      have hs' : (k : Int) < (ss.length : Int) := by omega
      have h20' : (k : Int) < 20 := by omega
      go_upto_region 6 with fail
      refine once6 _ wr o1 cs.length c1 o2 ss.length c2 k p1 p2 z1 z2 _ _ _ _ _ _ _ _ _ _ _ _ _ _ _ _ _ _ _ _ _ _ _ _ _ _ _ _ _ _ _ _ _ _ _ _ _ _ _ _ _ _ _ _ _ _ _ _ _ _ _ _ _ _ _ _ _ _ _ _ _ _ _ _ _ _ _ _ _ _ _ _ _ _ _ _ _ _ _ _ _ _ _ _ _ _ _ _ _ _ _ _ _ _ _ _ _ _ _ _ _ _ _ _ _ _ _ _ _ _ _ _ _ _ _ _ _ _ _ _ _ _ _ _ _ _ _ _ _ _ _ _ _ _ _ _ _ _ _ _ _ _ I1.out K1.out D1.out I2.out K2.out D2.out ?_
      intro x bb v40 v41 v42 v43 v44 v45 v46 v47 v48 v49 v50 hbb hbox hbel
      have B7 : b7 < wr.heap.size := HX.out.lt
      have GX := Lib.hid (HL.out.trans (hbel.mono HL.out.size))
      have HX1 := Lib.hid (HX.out.on hbel)
      have HBN1 := Lib.hid (HBN.out.on hbel)
      have HM1 := Lib.hid (HM.out.on hbel)
      have X10 := Lib.hid hbox
      have OKJ := Lib.hid (show Ok2 (Wi.within z1 0 3, Wi.within z2 0 2) from ⟨by have h := Wi.within_bd z1 0 3 (by decide); omega, by have h := Wi.within_bd z2 0 2 (by decide); omega⟩)
      generalize Wi.within z1 0 3 = j1 at *
      generalize Wi.within z2 0 2 = j2 at *
      clear HL HX HBN HM hbox hbel I1 K1 D1 I2 K2 D2
      go_upto_region 7 with fail
      have hk9 : k ≤ 900 := by omega
      refine once7 _ x w.heap.size b7 bb k j1 j2 b s1 s2 s3 s4 s5 s6 s7 s8 s9 s10 s11 s12 s13 s14 s15 h1 h2 h3 g1 g2 g3 has vals _ _ _ _ _ _ _ _ _ _ _ _ _ _ _ _ _ _ _ _ _ _ _ _ _ _ _ _ _ _ _ _ _ _ _ _ _ _ _ _ _ _ _ _ _ _ _ _ _ _ _ _ _ _ _ _ _ _ _ _ _ _ _ _ _ _ _ _ _ _ _ _ _ _ _ _ _ _ _ _ _ _ _ _ _ _ _ _ _ _ _ _ _ _ _ _ _ _ _ _ _ _ _ _ _ _ _ _ _ _ _ _ _ _ _ _ _ _ _ _ _ _ _ _ _ _ _ _ _ _ _ _ _ _ _ _ _ _ _ _ _ (X.out.on GX.out) HX1.out X10.out HBN1.out (HO.out.few hk9) HO.out.fewp HO.out.ok.seen HO.out.ok.adv (IH.out.on GX.out) (IV.out.on GX.out) LH.out LV.out (Nat.le_trans (prd_len5 has vals) (by decide)) ?_
      intro y bc v51 v52 v53 v54 v55 v56 v57 v58 v59 v60 v61 v62 r1 r2 r3 r4 r5' r6 r7 r8 r9 r10 r11 r12 r13 r14 r15 hbc hbox hbn hbel
      have HP : ((k % 2 : Nat) : Int) + 1 = 1 ∨ ((k % 2 : Nat) : Int) + 1 = 2 := by omega
      obtain ⟨ho1, hok, hin⟩ := once_learn HO.out (j1, j2) ((prd has vals 7).map r5) (((k % 2 : Nat) : Int) + 1) HP (prd_right5 has vals) (Nat.le_trans (prd_len5 has vals) (by decide))
      rw [hok]
      clear hok HP
      generalize (learnB b ⟨(j1, j2), ((prd has vals 7).map r5), ((k % 2 : Nat) : Int) + 1⟩).1 = nb at *
      have HO1_1 := Lib.hid (ho1)
      have IN_2 := Lib.hid (hin)
      have GB_3 := Lib.hid (GX.out.trans (hbel.mono GX.out.size))
      have X7_4 := Lib.hid (HX1.out.on hbel)
      have X10_5 := Lib.hid (X10.out.on hbel)
      have X11_6 := Lib.hid (hbox)
      have BN_7 := Lib.hid (hbn)
      have HM_8 := Lib.hid (HM1.out.on hbel)
      have SL_9 := Lib.hid (show s.length < 1000 from by have h1 := HO.out.len; have h2 := HO.out.sn; omega)
      clear ho1 hin hbox hbn hbel hbc HX1 HM1 HBN1 GX HO
      have LK := HM_8.out.look (j1, j2) OKJ.out
      generalize decide ((j1, j2) ∈ s) = dd at *
      have EQ : ∀ w, (binOp .eql 4 (.bool (!dd)) (.bool dd)).run Try.prog w = .ok (.bool false) w := by intro w; cases dd <;> simp [go_sem]
      have c0 := X10_5.out.cell 0
      have c1 := X10_5.out.cell 1
      simp only [List.getElem?_toArray, List.getElem?_cons_zero, List.getElem?_cons_succ] at c0 c1
      have n0 := X11_6.out.cell 0
      have n1 := X11_6.out.cell 1
      have n2 := X11_6.out.cell 2
      have n3 := X11_6.out.cell 3
      have n4 := X11_6.out.cell 4
      have n5 := X11_6.out.cell 5
      simp only [List.getElem?_toArray, List.getElem?_cons_zero, List.getElem?_cons_succ] at n0 n1 n2 n3 n4 n5
      go_wp2_with fail
      refine (aseen_any nb.me (.slice r1 r2 r3) (.slice r4 r5' r6) (.slice r10 r11 r12) (.slice r13 r14 r15) (r7, r8, r9) nb.seen (j1, j2) _ BN_7.out.br.seen).mono ?_
      rintro e2 w2 ⟨rfl, hb⟩
      rw [decide_eq_true IN_2.out]
      clear c0 c1 n0 n1 n2 n3 n4 n5
      have GB_10 := Lib.hid (GB_3.out.trans (hb.mono GB_3.out.size))
      have X7_10 := Lib.hid (X7_4.out.on hb)
      have X10_10 := Lib.hid (X10_5.out.on hb)
      have X11_10 := Lib.hid (X11_6.out.on hb)
      have BN_10 := Lib.hid (BN_7.out.on hb)
      have HM_10 := Lib.hid (HM_8.out.on hb)
      clear GB_3 X7_4 X10_5 X11_6 BN_7 HM_8
      clear hb LK EQ
      obtain ⟨w3, ms, hm3, hg⟩ := HM_10.out.store (j1, j2) OKJ.out SL_9.out
      have BT := but_grown hg
      have c0 := X10_10.out.cell 0
      have c1 := X10_10.out.cell 1
      simp only [List.getElem?_toArray, List.getElem?_cons_zero, List.getElem?_cons_succ] at c0 c1
      have GB_11 := Lib.hid (but_below GB_10.out hg (Nat.le_succ_of_le G7.out) HM_10.out.lt)
      have X7_11 := Lib.hid (Box.map X7_10.out HM_10.out BT)
      have X10_11 := Lib.hid (Box.map X10_10.out HM_10.out BT)
      have X11_11 := Lib.hid (Box.map X11_10.out HM_10.out BT)
      have BN_11 := Lib.hid (BN_10.out.map HM_10.out BT)
      have HM_11 := Lib.hid (hm3)
      have n0 := X11_11.out.cell 0
      have n1 := X11_11.out.cell 1
      have n2 := X11_11.out.cell 2
      have n3 := X11_11.out.cell 3
      have n4 := X11_11.out.cell 4
      have n5 := X11_11.out.cell 5
      simp only [List.getElem?_toArray, List.getElem?_cons_zero, List.getElem?_cons_succ] at n0 n1 n2 n3 n4 n5
      have m0 := X7_11.out.cell 0
      have m1 := X7_11.out.cell 1
      have m2 := X7_11.out.cell 2
      have m3 := X7_11.out.cell 3
      have m4 := X7_11.out.cell 4
      have m5 := X7_11.out.cell 5
      simp only [List.getElem?_toArray, List.getElem?_cons_zero, List.getElem?_cons_succ] at m0 m1 m2 m3 m4 m5
      have mf0 := X7_11.out.fr 0
      have mf1 := X7_11.out.fr 1
      have mf2 := X7_11.out.fr 2
      have mf3 := X7_11.out.fr 3
      have mf4 := X7_11.out.fr 4
      have mf5 := X7_11.out.fr 5
      have zz := X7_11.out.lt
      have idj : idv (j1, j2) = .agg #[.int .i64 j1, .int .i64 j2] := rfl
      rw [idj] at ms
      clear hm3 BT hg idj
      go_upto_region 12 with fail
      clear zz ms c0 c1
      clear n0 n1 n2 n3 n4 n5 m0 m1 m2 m3 m4 m5 mf0 mf1 mf2 mf3 mf4 mf5
      have BU := but_setB w3 b7 (.int .i64 nb.me) (.slice r1 r2 r3) (.slice r4 r5' r6) (.slice r7 r8 r9) (.slice r10 r11 r12) (.slice r13 r14 r15)
      have NB := box_ne X10_11.out X7_11.out rfl
      have GB_12 := Lib.hid (setB_below GB_11.out G7.out (.int .i64 nb.me) (.slice r1 r2 r3) (.slice r4 r5' r6) (.slice r7 r8 r9) (.slice r10 r11 r12) (.slice r13 r14 r15))
      have X7_12 := Lib.hid (setB_box X7_11.out (.int .i64 nb.me) (.slice r1 r2 r3) (.slice r4 r5' r6) (.slice r7 r8 r9) (.slice r10 r11 r12) (.slice r13 r14 r15))
      have X10_12 := Lib.hid (BU.box X10_11.out NB)
      have BN_12 := Lib.hid (BN_11.out.keep (s1 := (s1, s2, s3)) (s2 := (s4, s5, s6)) (s3 := (s7, s8, s9)) (s4 := (s10, s11, s12)) (s5 := (s13, s14, s15)) X7_11.out BU)
      have HM_12 := Lib.hid (HM_11.out.keep X7_11.out BU)
      clear BU NB
      clear X11_11
      unfold setB at *
      generalize (((((w3.setCell ⟨b7, 0, none⟩ (.int .i64 nb.me)).setCell ⟨b7, 1, none⟩ (.slice r1 r2 r3)).setCell ⟨b7, 2, none⟩ (.slice r4 r5' r6)).setCell ⟨b7, 3, none⟩ (.slice r7 r8 r9)).setCell ⟨b7, 4, none⟩ (.slice r10 r11 r12)).setCell ⟨b7, 5, none⟩ (.slice r13 r14 r15) = w4 at *
      rcases hq : ((k : Int) % 3 == 2) with _ | _
      · go_wp2_with fail
        go_roundw
        case rel => exact ⟨k + 1, nb, putS s (j1, j2), r1, r2, r3, r4, r5', r6, r7, r8, r9, r10, r11, r12, r13, r14, r15, by omega, by omega, by omega, by go_num, HO1_1.out, X7_12.out, BN_12.out, HM_12.out, GB_12.out⟩
        case measure => simp [intOf]; omega
      · have m0 := X7_12.out.cell 0
        have m1 := X7_12.out.cell 1
        have m2 := X7_12.out.cell 2
        have m3 := X7_12.out.cell 3
        have m4 := X7_12.out.cell 4
        have m5 := X7_12.out.cell 5
        simp only [List.getElem?_toArray, List.getElem?_cons_zero, List.getElem?_cons_succ] at m0 m1 m2 m3 m4 m5
        have c0 := X10_12.out.cell 0
        have c1 := X10_12.out.cell 1
        simp only [List.getElem?_toArray, List.getElem?_cons_zero, List.getElem?_cons_succ] at c0 c1
        obtain ⟨la, hd1, hd2⟩ := BN_12.out.br.adv
        have FD := find_any nb.me (.slice r1 r2 r3) (.slice r7 r8 r9) (.slice r10 r11 r12) (.slice r13 r14 r15) (r4, r5', r6) la nb.adv (j1, j2) w4 hd1 hd2 HO1_1.out.fp
        go_wp2_with fail
        rcases hf : findA nb.adv (j1, j2) with _ | a
        · rw [hf] at FD
          refine FD.mono ?_
          rintro e5 w5 ⟨rfl, hb⟩
          clear m0 m1 m2 m3 m4 m5 c0 c1
          have GB_13 := Lib.hid (GB_12.out.trans (hb.mono GB_12.out.size))
          have X7_13 := Lib.hid (X7_12.out.on hb)
          have X10_13 := Lib.hid (X10_12.out.on hb)
          have BN_13 := Lib.hid (BN_12.out.on hb)
          have HM_13 := Lib.hid (HM_12.out.on hb)
          clear GB_12 X7_12 X10_12 BN_12 HM_12
          clear FD hd1 hd2 hf
          have NN := newB w5 (.cells #[.int .i64 0, .int .i64 0, .slice none 0 0, .int .i64 0] 26)
          have GB_14 := Lib.hid (GB_13.out.trans (NN.mono GB_13.out.size))
          have X7_14 := Lib.hid (X7_13.out.on NN)
          have X10_14 := Lib.hid (X10_13.out.on NN)
          have BN_14 := Lib.hid (BN_13.out.on NN)
          have HM_14 := Lib.hid (HM_13.out.on NN)
          clear GB_13 X7_13 X10_13 BN_13 HM_13
          clear NN
          go_wp2_with fail
          go_roundw
          case rel => exact ⟨k + 1, nb, putS s (j1, j2), r1, r2, r3, r4, r5', r6, r7, r8, r9, r10, r11, r12, r13, r14, r15, by omega, by omega, by omega, by go_num, HO1_1.out, X7_14.out, BN_14.out, HM_14.out, GB_14.out⟩
          case measure => simp [intOf]; omega
        · rw [hf] at FD
          refine FD.mono ?_
          rintro e5 w5 ⟨⟨⟨q1, q2, ⟨q3, q4, q5⟩, q6⟩, rfl, hai⟩, hb⟩
          clear m0 m1 m2 m3 m4 m5 c0 c1
          have GB_13 := Lib.hid (GB_12.out.trans (hb.mono GB_12.out.size))
          have X7_13 := Lib.hid (X7_12.out.on hb)
          have X10_13 := Lib.hid (X10_12.out.on hb)
          have BN_13 := Lib.hid (BN_12.out.on hb)
          have HM_13 := Lib.hid (HM_12.out.on hb)
          clear GB_12 X7_12 X10_12 BN_12 HM_12
          obtain ⟨ha1, ha2, ha3⟩ := hai
          obtain rfl : q6 = a.par := ha2
          clear ha3 FD hd1 hd2
          have NN := newB w5 (.cells #[.int .i64 q1, .int .i64 q2, .slice q3 q4 q5, .int .i64 a.par] 26)
          have GB_14 := Lib.hid (GB_13.out.trans (NN.mono GB_13.out.size))
          have X7_14 := Lib.hid (X7_13.out.on NN)
          have X10_14 := Lib.hid (X10_13.out.on NN)
          have BN_14 := Lib.hid (BN_13.out.on NN)
          have HM_14 := Lib.hid (HM_13.out.on NN)
          clear GB_13 X7_13 X10_13 BN_13 HM_13
          clear NN
          have XA_15 := Lib.hid (box_new w5 #[.int .i64 q1, .int .i64 q2, .slice q3 q4 q5, .int .i64 a.par] 26)
          obtain ⟨ho2, hok2, hno2, hse2⟩ := once_forget HO1_1.out (j1, j2) hf
          have m0 := X7_14.out.cell 0
          have m1 := X7_14.out.cell 1
          have m2 := X7_14.out.cell 2
          have m3 := X7_14.out.cell 3
          have m4 := X7_14.out.cell 4
          have m5 := X7_14.out.cell 5
          simp only [List.getElem?_toArray, List.getElem?_cons_zero, List.getElem?_cons_succ] at m0 m1 m2 m3 m4 m5
          have c0 := X10_14.out.cell 0
          have c1 := X10_14.out.cell 1
          simp only [List.getElem?_toArray, List.getElem?_cons_zero, List.getElem?_cons_succ] at c0 c1
          have d0 := XA_15.out.cell 0
          have d1 := XA_15.out.cell 1
          have d2 := XA_15.out.cell 2
          have d3 := XA_15.out.cell 3
          simp only [List.getElem?_toArray, List.getElem?_cons_zero, List.getElem?_cons_succ] at d0 d1 d2 d3
          go_wp2_with fail
          generalize w5.alloc (.cells #[.int .i64 q1, .int .i64 q2, .slice q3 q4 q5, .int .i64 a.par] 26) = w6 at *
          have C := forget_any nb (j1, j2) a.par (r1, r2, r3) (r4, r5', r6) (r7, r8, r9) (r10, r11, r12) (r13, r14, r15) w6 BN_14.out.br (HO1_1.out.few (by omega)) HO1_1.out.fewp
          generalize forgetF nb (j1, j2) a.par = fr at *
          obtain ⟨nc, fb⟩ := fr
          simp only at ho2 hok2 hno2 hse2
          subst hok2
          refine C.mono ?_
          rintro e7 w7 ⟨⟨⟨t1, t2, t3⟩, ⟨t4, t5, t6⟩, ⟨t7, t8, t9⟩, ⟨t10, t11, t12⟩, ⟨t13, t14, t15⟩, rfl, hbr, hno⟩, hb⟩
          clear m0 m1 m2 m3 m4 m5 c0 c1 d0 d1 d2 d3
          have hno := hno BN_14.out.no
          have GB_16 := Lib.hid (GB_14.out.trans (hb.mono GB_14.out.size))
          have X7_16 := Lib.hid (X7_14.out.on hb)
          have X10_16 := Lib.hid (X10_14.out.on hb)
          have BN_16 := Lib.hid (BN_14.out.on hb)
          have HM_16 := Lib.hid (HM_14.out.on hb)
          have XA_16 := Lib.hid (XA_15.out.on hb)
          clear GB_14 X7_14 X10_14 BN_14 HM_14 XA_15
          have BN_17 := Lib.hid (BrN.mk hbr hno)
          have NN := newB w7 (.cells #[.int .i64 nc.me, .slice t1 t2 t3, .slice t4 t5 t6, .slice t7 t8 t9, .slice t10 t11 t12, .slice t13 t14 t15] 33)
          have GB_18 := Lib.hid (GB_16.out.trans (NN.mono GB_16.out.size))
          have X7_18 := Lib.hid (X7_16.out.on NN)
          have X10_18 := Lib.hid (X10_16.out.on NN)
          have BN_18 := Lib.hid (BN_17.out.on NN)
          have HM_18 := Lib.hid (HM_16.out.on NN)
          have XA_18 := Lib.hid (XA_16.out.on NN)
          clear GB_16 X7_16 X10_16 BN_17 HM_16 XA_16
          clear NN
          have XC_19 := Lib.hid (box_new w7 #[.int .i64 nc.me, .slice t1 t2 t3, .slice t4 t5 t6, .slice t7 t8 t9, .slice t10 t11 t12, .slice t13 t14 t15] 33)
          have HO1_20 := Lib.hid (ho2)
          have NF_21 := Lib.hid (hno2)
          have IN_22 := Lib.hid (show (j1, j2) ∈ nc.seen from by rw [hse2]; exact IN_2.out)
          clear C hbr hno hb ho2 hno2 hse2
          have m0 := XC_19.out.cell 0
          have m1 := XC_19.out.cell 1
          have m2 := XC_19.out.cell 2
          have m3 := XC_19.out.cell 3
          have m4 := XC_19.out.cell 4
          have m5 := XC_19.out.cell 5
          simp only [List.getElem?_toArray, List.getElem?_cons_zero, List.getElem?_cons_succ] at m0 m1 m2 m3 m4 m5
          have c0 := X10_18.out.cell 0
          have c1 := X10_18.out.cell 1
          simp only [List.getElem?_toArray, List.getElem?_cons_zero, List.getElem?_cons_succ] at c0 c1
          obtain ⟨lb, hd1, hd2⟩ := BN_18.out.br.adv
          go_wp2_with fail
          generalize w7.alloc (.cells #[.int .i64 nc.me, .slice t1 t2 t3, .slice t4 t5 t6, .slice t7 t8 t9, .slice t10 t11 t12, .slice t13 t14 t15] 33) = w8 at *
          have FD := find_any nc.me (.slice t1 t2 t3) (.slice t7 t8 t9) (.slice t10 t11 t12) (.slice t13 t14 t15) (t4, t5, t6) lb nc.adv (j1, j2) w8 hd1 hd2 HO1_20.out.fp
          rw [NF_21.out] at FD
          refine FD.mono ?_
          rintro e9 w9 ⟨rfl, hb⟩
          clear m0 m1 m2 m3 m4 m5 c0 c1
          have GB_23 := Lib.hid (GB_18.out.trans (hb.mono GB_18.out.size))
          have X7_23 := Lib.hid (X7_18.out.on hb)
          have X10_23 := Lib.hid (X10_18.out.on hb)
          have BN_23 := Lib.hid (BN_18.out.on hb)
          have HM_23 := Lib.hid (HM_18.out.on hb)
          have XA_23 := Lib.hid (XA_18.out.on hb)
          have XC_23 := Lib.hid (XC_19.out.on hb)
          clear GB_18 X7_18 X10_18 BN_18 HM_18 XA_18 XC_19
          clear FD hd1 hd2 hb
          have NN := newB w9 (.cells #[.int .i64 0, .int .i64 0, .slice none 0 0, .int .i64 0] 26)
          have GB_24 := Lib.hid (GB_23.out.trans (NN.mono GB_23.out.size))
          have X7_24 := Lib.hid (X7_23.out.on NN)
          have X10_24 := Lib.hid (X10_23.out.on NN)
          have BN_24 := Lib.hid (BN_23.out.on NN)
          have HM_24 := Lib.hid (HM_23.out.on NN)
          have XA_24 := Lib.hid (XA_23.out.on NN)
          have XC_24 := Lib.hid (XC_23.out.on NN)
          clear GB_23 X7_23 X10_23 BN_23 HM_23 XA_23 XC_23
          clear NN
          have m0 := XC_24.out.cell 0
          have m1 := XC_24.out.cell 1
          have m2 := XC_24.out.cell 2
          have m3 := XC_24.out.cell 3
          have m4 := XC_24.out.cell 4
          have m5 := XC_24.out.cell 5
          simp only [List.getElem?_toArray, List.getElem?_cons_zero, List.getElem?_cons_succ] at m0 m1 m2 m3 m4 m5
          have c0 := X10_24.out.cell 0
          have c1 := X10_24.out.cell 1
          simp only [List.getElem?_toArray, List.getElem?_cons_zero, List.getElem?_cons_succ] at c0 c1
          go_wp2_with fail
          generalize w9.alloc (.cells #[.int .i64 0, .int .i64 0, .slice none 0 0, .int .i64 0] 26) = w10 at *
          refine (aseen_any nc.me (.slice t1 t2 t3) (.slice t4 t5 t6) (.slice t10 t11 t12) (.slice t13 t14 t15) (t7, t8, t9) nc.seen (j1, j2) w10 BN_24.out.br.seen).mono ?_
          rintro e11 w11 ⟨rfl, hb⟩
          rw [decide_eq_true IN_22.out]
          clear m0 m1 m2 m3 m4 m5 c0 c1
          have GB_25 := Lib.hid (GB_24.out.trans (hb.mono GB_24.out.size))
          have X7_25 := Lib.hid (X7_24.out.on hb)
          have X10_25 := Lib.hid (X10_24.out.on hb)
          have BN_25 := Lib.hid (BN_24.out.on hb)
          have HM_25 := Lib.hid (HM_24.out.on hb)
          have XA_25 := Lib.hid (XA_24.out.on hb)
          have XC_25 := Lib.hid (XC_24.out.on hb)
          clear GB_24 X7_24 X10_24 BN_24 HM_24 XA_24 XC_24
          clear hb
          have n0 := XC_25.out.cell 0
          have n1 := XC_25.out.cell 1
          have n2 := XC_25.out.cell 2
          have n3 := XC_25.out.cell 3
          have n4 := XC_25.out.cell 4
          have n5 := XC_25.out.cell 5
          simp only [List.getElem?_toArray, List.getElem?_cons_zero, List.getElem?_cons_succ] at n0 n1 n2 n3 n4 n5
          have m0 := X7_25.out.cell 0
          have m1 := X7_25.out.cell 1
          have m2 := X7_25.out.cell 2
          have m3 := X7_25.out.cell 3
          have m4 := X7_25.out.cell 4
          have m5 := X7_25.out.cell 5
          simp only [List.getElem?_toArray, List.getElem?_cons_zero, List.getElem?_cons_succ] at m0 m1 m2 m3 m4 m5
          have mf0 := X7_25.out.fr 0
          have mf1 := X7_25.out.fr 1
          have mf2 := X7_25.out.fr 2
          have mf3 := X7_25.out.fr 3
          have mf4 := X7_25.out.fr 4
          have mf5 := X7_25.out.fr 5
          have zz := X7_25.out.lt
          have BU := but_setB w11 b7 (.int .i64 nc.me) (.slice t1 t2 t3) (.slice t4 t5 t6) (.slice t7 t8 t9) (.slice t10 t11 t12) (.slice t13 t14 t15)
          have GB_26 := Lib.hid (setB_below GB_25.out G7.out (.int .i64 nc.me) (.slice t1 t2 t3) (.slice t4 t5 t6) (.slice t7 t8 t9) (.slice t10 t11 t12) (.slice t13 t14 t15))
          have X7_26 := Lib.hid (setB_box X7_25.out (.int .i64 nc.me) (.slice t1 t2 t3) (.slice t4 t5 t6) (.slice t7 t8 t9) (.slice t10 t11 t12) (.slice t13 t14 t15))
          have BN_26 := Lib.hid (BN_25.out.keep (s1 := (r1, r2, r3)) (s2 := (r4, r5', r6)) (s3 := (r7, r8, r9)) (s4 := (r10, r11, r12)) (s5 := (r13, r14, r15)) X7_25.out BU)
          have HM_26 := Lib.hid (HM_25.out.keep X7_25.out BU)
          clear BU
          go_wp2_with fail
          go_roundw
          case rel => exact ⟨k + 1, nc, putS s (j1, j2), t1, t2, t3, t4, t5, t6, t7, t8, t9, t10, t11, t12, t13, t14, t15, by omega, by omega, by omega, by go_num, HO1_20.out, X7_26.out, BN_26.out, HM_26.out, GB_26.out⟩
          case measure => simp [intOf]; omega
    · have HO1 := HO
      have X7 := HX
      have BN := HBN
      have GB := HL
      clear HO HX HBN HL
      obtain ⟨ql, _, hql⟩ := BN.out.br.seen.len
      obtain rfl : s8 = s.length := by rw [HO1.out.len]; simpa using congrArg (fun v => match v with | Value.slice _ n _ => n | _ => 0) hql
      clear hql ql
      have N1 := newB wr (.cells #[.int .i64 1, .int .i64 5] 23)
      have N2 := newB (wr.alloc (.cells #[.int .i64 1, .int .i64 5] 23)) (.cells #[.int .i64 2, .int .i64 0] 23)
      have Q1 := Lib.hid ((box_new wr #[.int .i64 1, .int .i64 5] 23).on N2)
      have Q2 := Lib.hid (box_new (wr.alloc (.cells #[.int .i64 1, .int .i64 5] 23)) #[.int .i64 2, .int .i64 0] 23)
      rw [← one_more] at Q2
      have NN := N1.trans (N2.mono N1.size)
      have X7_1 := Lib.hid (X7.out.on NN)
      have BN_1 := Lib.hid (BN.out.on NN)
      have HM_1 := Lib.hid (HM.out.on NN)
      have GB_1 := Lib.hid (GB.out.trans (NN.mono GB.out.size))
      clear X7 BN HM GB
      clear N1 N2 NN
      have CT := fun ty => HM_1.out.count ty
      have m0 := X7_1.out.cell 0
      have m1 := X7_1.out.cell 1
      have m2 := X7_1.out.cell 2
      have m3 := X7_1.out.cell 3
      have m4 := X7_1.out.cell 4
      have m5 := X7_1.out.cell 5
      simp only [List.getElem?_toArray, List.getElem?_cons_zero, List.getElem?_cons_succ] at m0 m1 m2 m3 m4 m5
      have c0 := Q1.out.cell 0
      have c1 := Q1.out.cell 1
      simp only [List.getElem?_toArray, List.getElem?_cons_zero, List.getElem?_cons_succ] at c0 c1
      have d0 := Q2.out.cell 0
      have d1 := Q2.out.cell 1
      simp only [List.getElem?_toArray, List.getElem?_cons_zero, List.getElem?_cons_succ] at d0 d1
      have hx : cs.length ≤ k ∨ (k < cs.length ∧ ss.length ≤ k) ∨ (k < cs.length ∧ k < ss.length ∧ 20 ≤ k) := by omega
      rcases hx with hx | ⟨hx, hy⟩ | ⟨hx, hy, hz⟩
      all_goals
        first | (have q1 : ¬ ((k : Int) < (cs.length : Int)) := (by omega)) | (have q1 : (k : Int) < (cs.length : Int) := (by omega); first | (have q2 : ¬ ((k : Int) < (ss.length : Int)) := (by omega)) | (have q2 : (k : Int) < (ss.length : Int) := (by omega); have q3 : ¬ ((k : Int) < 20) := (by omega)))
        go_wp2_with fail
        generalize ((wr.alloc (.cells #[.int .i64 1, .int .i64 5] 23)).alloc (.cells #[.int .i64 2, .int .i64 0] 23)) = w3 at *
        have C := aless_any (1, 5) (2, 0) w3
        rw [show lessI (1, 5) (2, 0) = true from by decide] at C
        refine C.mono ?_
        rintro e4 w4 ⟨rfl, hb⟩
        clear m0 m1 m2 m3 m4 m5 c0 c1 d0 d1
        clear CT
        have X7_2 := Lib.hid (X7_1.out.on hb)
        have BN_2 := Lib.hid (BN_1.out.on hb)
        have HM_2 := Lib.hid (HM_1.out.on hb)
        have GB_2 := Lib.hid (GB_1.out.trans (hb.mono GB_1.out.size))
        have Q1_2 := Lib.hid (Q1.out.on hb)
        have Q2_2 := Lib.hid (Q2.out.on hb)
        clear X7_1 BN_1 HM_1 GB_1 Q1 Q2
        clear hb C
        have m0 := X7_2.out.cell 0
        have m1 := X7_2.out.cell 1
        have m2 := X7_2.out.cell 2
        have m3 := X7_2.out.cell 3
        have m4 := X7_2.out.cell 4
        have m5 := X7_2.out.cell 5
        simp only [List.getElem?_toArray, List.getElem?_cons_zero, List.getElem?_cons_succ] at m0 m1 m2 m3 m4 m5
        have c0 := Q1_2.out.cell 0
        have c1 := Q1_2.out.cell 1
        simp only [List.getElem?_toArray, List.getElem?_cons_zero, List.getElem?_cons_succ] at c0 c1
        have d0 := Q2_2.out.cell 0
        have d1 := Q2_2.out.cell 1
        simp only [List.getElem?_toArray, List.getElem?_cons_zero, List.getElem?_cons_succ] at d0 d1
        go_wp2_with fail
        have C := aless_any (2, 0) (1, 5) w4
        rw [show lessI (2, 0) (1, 5) = false from by decide] at C
        refine C.mono ?_
        rintro e5 w5 ⟨rfl, hb⟩
        clear m0 m1 m2 m3 m4 m5 c0 c1 d0 d1
        have X7_3 := Lib.hid (X7_2.out.on hb)
        have BN_3 := Lib.hid (BN_2.out.on hb)
        have HM_3 := Lib.hid (HM_2.out.on hb)
        have GB_3 := Lib.hid (GB_2.out.trans (hb.mono GB_2.out.size))
        have Q1_3 := Lib.hid (Q1_2.out.on hb)
        have Q2_3 := Lib.hid (Q2_2.out.on hb)
        clear X7_2 BN_2 HM_2 GB_2 Q1_2 Q2_2
        clear hb C
        have m0 := X7_3.out.cell 0
        have m1 := X7_3.out.cell 1
        have m2 := X7_3.out.cell 2
        have m3 := X7_3.out.cell 3
        have m4 := X7_3.out.cell 4
        have m5 := X7_3.out.cell 5
        simp only [List.getElem?_toArray, List.getElem?_cons_zero, List.getElem?_cons_succ] at m0 m1 m2 m3 m4 m5
        have c0 := Q1_3.out.cell 0
        have c1 := Q1_3.out.cell 1
        simp only [List.getElem?_toArray, List.getElem?_cons_zero, List.getElem?_cons_succ] at c0 c1
        have d0 := Q2_3.out.cell 0
        have d1 := Q2_3.out.cell 1
        simp only [List.getElem?_toArray, List.getElem?_cons_zero, List.getElem?_cons_succ] at d0 d1
        go_wp2_with fail
        have C := aless_any (1, 5) (1, 5) w5
        rw [show lessI (1, 5) (1, 5) = false from by decide] at C
        refine C.mono ?_
        rintro e6 w6 ⟨rfl, hb⟩
        clear m0 m1 m2 m3 m4 m5 c0 c1 d0 d1
        have X7_4 := Lib.hid (X7_3.out.on hb)
        have BN_4 := Lib.hid (BN_3.out.on hb)
        have HM_4 := Lib.hid (HM_3.out.on hb)
        have GB_4 := Lib.hid (GB_3.out.trans (hb.mono GB_3.out.size))
        have Q1_4 := Lib.hid (Q1_3.out.on hb)
        have Q2_4 := Lib.hid (Q2_3.out.on hb)
        clear X7_3 BN_3 HM_3 GB_3 Q1_3 Q2_3
        clear hb C
        have m0 := X7_4.out.cell 0
        have m1 := X7_4.out.cell 1
        have m2 := X7_4.out.cell 2
        have m3 := X7_4.out.cell 3
        have m4 := X7_4.out.cell 4
        have m5 := X7_4.out.cell 5
        simp only [List.getElem?_toArray, List.getElem?_cons_zero, List.getElem?_cons_succ] at m0 m1 m2 m3 m4 m5
        have c0 := Q1_4.out.cell 0
        have c1 := Q1_4.out.cell 1
        simp only [List.getElem?_toArray, List.getElem?_cons_zero, List.getElem?_cons_succ] at c0 c1
        have d0 := Q2_4.out.cell 0
        have d1 := Q2_4.out.cell 1
        simp only [List.getElem?_toArray, List.getElem?_cons_zero, List.getElem?_cons_succ] at d0 d1
        go_wp2_with fail
        have C := aright_any b (s1, s2, s3) (s4, s5, s6) (s7, s.length, s9) (s10, s11, s12) (s13, s14, s15) w6 BN_4.out.br (HO1.out.few (by omega)) HO1.out.tame
        rw [(okBr_iff b).2 HO1.out.ok] at C
        refine C.mono ?_
        rintro e7 w7 ⟨rfl, hb⟩
        clear m0 m1 m2 m3 m4 m5 c0 c1 d0 d1
        have X7_5 := Lib.hid (X7_4.out.on hb)
        have BN_5 := Lib.hid (BN_4.out.on hb)
        have HM_5 := Lib.hid (HM_4.out.on hb)
        have GB_5 := Lib.hid (GB_4.out.trans (hb.mono GB_4.out.size))
        have Q1_5 := Lib.hid (Q1_4.out.on hb)
        have Q2_5 := Lib.hid (Q2_4.out.on hb)
        clear X7_4 BN_4 HM_4 GB_4 Q1_4 Q2_4
        clear hb C
        go_wp2_with fail
        refine (runs_any w7).mono ?_
        rintro e8 w8 ⟨rfl, hb⟩
        have X7_6 := Lib.hid (X7_5.out.on hb)
        have BN_6 := Lib.hid (BN_5.out.on hb)
        have HM_6 := Lib.hid (HM_5.out.on hb)
        have GB_6 := Lib.hid (GB_5.out.trans (hb.mono GB_5.out.size))
        have Q1_6 := Lib.hid (Q1_5.out.on hb)
        have Q2_6 := Lib.hid (Q2_5.out.on hb)
        clear X7_5 BN_5 HM_5 GB_5 Q1_5 Q2_5
        clear hb
        go_wp2
        go_ret
        exact ⟨rfl, B0.out.trans (GB_6.out.mono B0.out.size)⟩
end Go.Proofs.Ytonoadjmglkhaaa.Av
