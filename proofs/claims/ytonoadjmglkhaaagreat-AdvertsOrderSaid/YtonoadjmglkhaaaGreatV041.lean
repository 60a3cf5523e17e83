/-
  AdvertsOrder's loop that learns each advertisement in both orders. Conditions as the theorem states them.
  Small things for AdvertsPlays. No program's function in it.
  AdvertsOrder's region that makes both brokers. Conditions as the theorem states them.
-/
import Derived.Test.YtonoadjmglkhaaaGreatV039
import Derived.Test.YtonoadjmglkhaaaGreatV040
import Derived.Test.YtonoadjmglkhaaaGreatV036
namespace Go.Proofs.YtonoadjmglkhaaaGreat.Av
open Go.RowKit Go.Sort Go.Proofs.YtonoadjmglkhaaaGreat Go.Proofs.YtonoadjmglkhaaaGreat.Rw Go.Proofs.YtonoadjmglkhaaaGreat.Nm Go.Proofs.YtonoadjmglkhaaaGreat.Pr Go.Proofs.YtonoadjmglkhaaaGreat.Bk

theorem AdR.but {W W' : World} {B g : Nat} {cs : Array Value} {v : Value} {lx : List XAd} {l : List Ad} (h : AdR W B v lx l) (hb : Box W g cs 29) (hk : But g W W') : AdR W' B v lx l := ⟨hk.own h.row hb (by decide), h.all.mono fun _ _ q => ⟨q.1, q.2.1, hk.own q.2.2 hb (by decide)⟩⟩
theorem AdR.ads {W : World} {B : Nat} {v : Value} {lx : List XAd} {l : List Ad} (h : AdR W B v lx l) {k : Nat} {a : Ad} (ha : l[k]? = some a) : ∃ z, lx[k]? = some z ∧ AdIn W z a := by
  obtain ⟨z, h1, h2⟩ := h.all.at k a ha
  exact ⟨z, h1, h2.ad⟩
theorem take_next {q : List XID} {k : Nat} {x : XID} (h : q[k]? = some x) : q.take (k + 1) = q.take k ++ [x] := by
  rw [List.take_add_one, h]
  rfl
theorem not_before {q : List XID} (hn : q.Nodup) {k : Nat} {x : XID} (h : q[k]? = some x) : x ∉ q.take k := fun hx => by
  have h2 := take_next h
  have h3 : (q.take (k + 1)).Nodup := hn.sublist (List.take_sublist _ _)
  rw [h2] at h3
  exact (List.nodup_append.1 h3).2.2 x hx x (by simp) rfl
noncomputable def order_22C : Code := .seq (headN 9 (Tryz.f5.body.getD .skip)) (order_28C)
set_option maxRecDepth 100000 in
set_option maxHeartbeats 16000000 in
theorem order_22 (w W : World) (n b18 b19 : Nat) (nr : List Int) (p : List C5) (q t : List XID) (b c : Br) (s1 : Option Addr) (s2 s3 : Nat) (s4 : Option Addr) (s5 s6 : Nat) (s7 : Option Addr) (s8 s9 : Nat) (s10 : Option Addr) (s11 s12 : Nat) (s13 : Option Addr) (s14 s15 : Nat) (o1 : Option Addr) (o2 o3 : Nat) (o4 : Option Addr) (o5 o6 : Nat) (o7 : Option Addr) (o8 o9 : Nat) (o10 : Option Addr) (o11 o12 : Nat) (o13 : Option Addr) (o14 o15 : Nat) (l1 : Option Addr) (l3 : Nat) (t1 : Option Addr) (t3 : Nat) (lx tx : List XAd)
    (gb : Below w.heap.size w W) (x18 : Box W b18 #[.int .i64 b.me, .slice s1 s2 s3, .slice s4 s5 s6, .slice s7 s8 s9, .slice s10 s11 s12, .slice s13 s14 s15] 29) (x19 : Box W b19 #[.int .i64 c.me, .slice o1 o2 o3, .slice o4 o5 o6, .slice o7 o8 o9, .slice o10 o11 o12, .slice o13 o14 o15] 29) (n18 : BrN W b (s1, s2, s3) (s4, s5, s6) (s7, s8, s9) (s10, s11, s12) (s13, s14, s15)) (n19 : BrN W c (o1, o2, o3) (o4, o5, o6) (o7, o8, o9) (o10, o11, o12) (o13, o14, o15)) (ob : OrdI nr p b []) (oc : OrdI nr p c []) (al : AdR W n (.slice l1 q.length l3) lx (q.map (mkA p))) (at_ : AdR W n (.slice t1 t.length t3) tx (t.map (mkA p))) (qn : q.Nodup) (tn : t.Nodup) (tq : t.length = q.length) (mem : ∀ x, x ∈ q ↔ x ∈ t) (ql : q.length ≤ 8) (pl : p.length ≤ 900) (pr : Wr.rightP p = true) (g18 : w.heap.size ≤ b18) (g19 : w.heap.size ≤ b19) (ne : b18 ≠ b19)
    (u0 u1 u2 u3 u4 u5 u6 u7 u8 u10 u11 u12 u14 u15 u16 u17 u20 u21 u22 u23 u24 u25 u26 u27 u28 u29 u30 u31 u32 u33 u34 u35 u36 u37 u38 u39 u40 u41 u42 u43 u44 u45 u46 u47 u48 u49 u50 u51 u52 u53 u54 u55 u56 u57 u58 u59 u60 u61 u62 u63 u64 u65 u66 u67 u68 u69 u70 u71 u72 u73 u74 u75 u76 u77 u78 u79 u80 u81 u82 u83 u84 u85 u86 u87 u88 u89 u90 u91 u92 u93 u94 u95 u96 u97 u98 u99 u100 u101 u102 u103 u104 u105 u106 u107 u108 u109 u110 u111 u112 u113 u114 u115 u116 u117 u118 u119 u120 u121 u122 u123 u124 u125 u126 u127 u128 u129 u130 u131 u132 u133 u134 u135 u136 u137 u138 u139 u140 u141 u142 u143 u144 u145 u146 u147 u148 u149 u150 u151 u152 u153 u154 u155 u156 u157 u158 u159 u160 u161 u162 u163 u164 u165 u166 u167 u168 u169 u170 u171 u172 u173 u174 u175 u176 u177 u178 u179 u180 u181 u182 u183 u184 u185 u186 u187 u188 u189 u190 u191 u192 u193 : Value) :
    Code.wp Tryz.prog order_22C (bodyPost Tryz.prog Tryz.f5 (OrdQ w)) ⟨(u0 :: u1 :: u2 :: u3 :: u4 :: u5 :: u6 :: u7 :: u8 :: .slice l1 q.length l3 :: u10 :: u11 :: u12 :: .slice t1 t.length t3 :: u14 :: u15 :: u16 :: u17 :: .pointer (some ⟨b18, 0, none⟩) :: .pointer (some ⟨b19, 0, none⟩) :: u20 :: u21 :: u22 :: u23 :: u24 :: u25 :: u26 :: u27 :: u28 :: u29 :: u30 :: u31 :: u32 :: u33 :: u34 :: u35 :: u36 :: u37 :: u38 :: u39 :: u40 :: u41 :: u42 :: u43 :: u44 :: u45 :: u46 :: u47 :: u48 :: u49 :: u50 :: u51 :: u52 :: u53 :: u54 :: u55 :: u56 :: u57 :: u58 :: u59 :: u60 :: u61 :: u62 :: u63 :: u64 :: u65 :: u66 :: u67 :: u68 :: u69 :: u70 :: u71 :: u72 :: u73 :: u74 :: u75 :: u76 :: u77 :: u78 :: u79 :: u80 :: u81 :: u82 :: u83 :: u84 :: u85 :: u86 :: u87 :: u88 :: u89 :: u90 :: u91 :: u92 :: u93 :: u94 :: u95 :: u96 :: u97 :: u98 :: u99 :: u100 :: u101 :: u102 :: u103 :: u104 :: u105 :: u106 :: u107 :: u108 :: u109 :: u110 :: u111 :: u112 :: u113 :: u114 :: u115 :: u116 :: u117 :: u118 :: u119 :: u120 :: u121 :: u122 :: u123 :: u124 :: u125 :: u126 :: u127 :: u128 :: u129 :: u130 :: u131 :: u132 :: u133 :: u134 :: u135 :: u136 :: u137 :: u138 :: u139 :: u140 :: u141 :: u142 :: u143 :: u144 :: u145 :: u146 :: u147 :: u148 :: u149 :: u150 :: u151 :: u152 :: u153 :: u154 :: u155 :: u156 :: u157 :: u158 :: u159 :: u160 :: u161 :: u162 :: u163 :: u164 :: u165 :: u166 :: u167 :: u168 :: u169 :: u170 :: u171 :: u172 :: u173 :: u174 :: u175 :: u176 :: u177 :: u178 :: u179 :: u180 :: u181 :: u182 :: u183 :: u184 :: u185 :: u186 :: u187 :: u188 :: u189 :: u190 :: u191 :: u192 :: u193 :: []).toArray, []⟩ W := by
  have GB_1 := Lib.hid (gb)
  have X18_2 := Lib.hid (x18)
  have X19_3 := Lib.hid (x19)
  have N18_4 := Lib.hid (n18)
  have N19_5 := Lib.hid (n19)
  have OB_6 := Lib.hid (ob)
  have OC_7 := Lib.hid (oc)
  have AL_8 := Lib.hid (al)
  have AT_9 := Lib.hid (at_)
  clear gb x18 x19 n18 n19 ob oc al at_
  have QN := Lib.hid qn
  have TN := Lib.hid tn
  have TQ := Lib.hid tq
  have ME := Lib.hid mem
  have PLN := Lib.hid pl
  have PR := Lib.hid pr
  clear qn tn tq mem pl pr
  unfold order_22C
  conv => enter [2, 1]; whnf
  go_wp2_with fail
  go_loopw [125] (fun i wr => ∃ (k : Nat) (b c : Br) (s1 : Option Addr) (s2 s3 : Nat) (s4 : Option Addr) (s5 s6 : Nat) (s7 : Option Addr) (s8 s9 : Nat) (s10 : Option Addr) (s11 s12 : Nat) (s13 : Option Addr) (s14 s15 : Nat) (o1 : Option Addr) (o2 o3 : Nat) (o4 : Option Addr) (o5 o6 : Nat) (o7 : Option Addr) (o8 o9 : Nat) (o10 : Option Addr) (o11 o12 : Nat) (o13 : Option Addr) (o14 o15 : Nat), k ≤ q.length ∧ i = .int .i64 k ∧ Box wr b18 #[.int .i64 b.me, .slice s1 s2 s3, .slice s4 s5 s6, .slice s7 s8 s9, .slice s10 s11 s12, .slice s13 s14 s15] 29 ∧ Box wr b19 #[.int .i64 c.me, .slice o1 o2 o3, .slice o4 o5 o6, .slice o7 o8 o9, .slice o10 o11 o12, .slice o13 o14 o15] 29 ∧ BrN wr b (s1, s2, s3) (s4, s5, s6) (s7, s8, s9) (s10, s11, s12) (s13, s14, s15) ∧ BrN wr c (o1, o2, o3) (o4, o5, o6) (o7, o8, o9) (o10, o11, o12) (o13, o14, o15) ∧ OrdI nr p b (q.take k) ∧ OrdI nr p c (t.take k) ∧ AdR wr n (.slice l1 q.length l3) lx (q.map (mkA p)) ∧ AdR wr n (.slice t1 t.length t3) tx (t.map (mkA p)) ∧ Below w.heap.size w wr) (fun i _ => q.length - (intOf i).toNat)
  case atStart => exact ⟨0, b, c, s1, s2, s3, s4, s5, s6, s7, s8, s9, s10, s11, s12, s13, s14, s15, o1, o2, o3, o4, o5, o6, o7, o8, o9, o10, o11, o12, o13, o14, o15, Nat.zero_le _, rfl, X18_2.out, X19_3.out, N18_4.out, N19_5.out, OB_6.out, OC_7.out, AL_8.out, AT_9.out, GB_1.out⟩
  case round =>
    obtain ⟨k, b, c, s1, s2, s3, s4, s5, s6, s7, s8, s9, s10, s11, s12, s13, s14, s15, o1, o2, o3, o4, o5, o6, o7, o8, o9, o10, o11, o12, o13, o14, o15, hk, rfl, hx18, hx19, hn18, hn19, hob, hoc, hal, hat, hgb⟩ := hrel
    have X18_10 := Lib.hid (hx18)
    have X19_11 := Lib.hid (hx19)
    have N18_12 := Lib.hid (hn18)
    have N19_13 := Lib.hid (hn19)
    have OB_14 := Lib.hid (hob)
    have OC_15 := Lib.hid (hoc)
    have AL_16 := Lib.hid (hal)
    have AT_17 := Lib.hid (hat)
    have GB_18 := Lib.hid (hgb)
    clear hx18 hx19 hn18 hn19 hob hoc hal hat hgb X18_2 X19_3 N18_4 N19_5 OB_6 OC_7 AL_8 AT_9 GB_1
    by_cases hlt : k < q.length
    · have hlt' : (k : Int) < (q.length : Int) := by omega
      have hw : IntKind.i64.wrap ((k : Int) + 1) = (k : Int) + 1 := IntWalk.i64_in _ (by omega)
      obtain ⟨x, hx⟩ : ∃ x, q[k]? = some x := ⟨_, List.getElem?_eq_getElem hlt⟩
      obtain ⟨y, hy⟩ : ∃ y, t[k]? = some y := ⟨_, List.getElem?_eq_getElem (by rw [TQ.out]; exact hlt)⟩
      have tkl : (q.take k).length ≤ 900 := by rw [List.length_take]; omega
      have tkt : (t.take k).length ≤ 900 := by rw [List.length_take]; omega
      obtain ⟨z, hz, hzi⟩ := AL_16.out.ads (k := k) (a := mkA p x) (by rw [List.getElem?_map, hx]; rfl)
      obtain ⟨_, _, hve⟩ := (Row.of_own AL_16.out.row).len
      have hlen : lx.length = q.length := by simpa using (congrArg (fun v => match v with | Value.slice _ n _ => n | _ => 0) hve).symm
      clear hve
      obtain ⟨pa, ixa, _, pxa⟩ := row_el okD (Row.of_own AL_16.out.row) rfl hlen hz
      go_upto_region 25 with fail
      refine ord25 _ wr b18 k (.slice l1 q.length l3) pa z (mkA p x) b s1 s2 s3 s4 s5 s6 s7 s8 s9 s10 s11 s12 s13 s14 s15 _ _ _ _ _ _ _ _ _ _ _ _ _ _ _ _ _ _ _ _ _ _ _ _ _ _ _ _ _ _ _ _ _ _ _ _ _ _ _ _ _ _ _ _ _ _ _ _ _ _ _ _ _ _ _ _ _ _ _ _ _ _ _ _ _ _ _ _ _ _ _ _ _ _ _ _ _ _ _ _ _ _ _ _ _ _ _ _ _ _ _ _ _ _ _ _ _ _ _ _ _ _ _ _ _ _ _ _ _ _ _ _ _ _ _ _ _ _ _ _ _ _ _ _ _ _ _ _ _ _ _ _ _ _ _ _ _ _ _ _ _ _ _ _ _ _ _ _ _ _ _ _ _ _ _ _ _ _ _ _ _ _ _ _ _ _ _ _ _ _ _ _ _ _ _ _ _ _ _ _ _ _ _ _ _ _ _ _ _ _ _ X18_10.out N18_12.out ixa pxa hzi (OB_14.out.fewB tkl) (OB_14.out.fewp PLN.out) PLN.out OB_14.out.ok.seen OB_14.out.ok.adv ?_
      intro x1 v128 v129 v130 v131 v132 v133 v134 v135 v136 m1 m2 m3 m4 m5 m6 m7 m8 m9 m10 m11 m12 m13 m14 m15 hbox hbr hsto
      have ho := ord_learn OB_14.out x (not_before QN.out hx) PR.out
      rw [← take_next hx] at ho
      have X18_19 := Lib.hid (hbox)
      have X19_19 := Lib.hid (hsto.1.box X19_11.out ne.symm)
      have N18_19 := Lib.hid (hbr)
      have N19_19 := Lib.hid (N19_13.out.keep (s1 := (s1, s2, s3)) (s2 := (s4, s5, s6)) (s3 := (s7, s8, s9)) (s4 := (s10, s11, s12)) (s5 := (s13, s14, s15)) X18_10.out hsto.1)
      have OB_19 := Lib.hid (ho)
      have AL_19 := Lib.hid (AL_16.out.but X18_10.out hsto.1)
      have AT_19 := Lib.hid (AT_17.out.but X18_10.out hsto.1)
      have GB_19 := Lib.hid (GB_18.out.trans (hsto.2 _ g18))
      clear X18_10 X19_11 N18_12 N19_13 OB_14 AL_16 AT_17 GB_18
      clear hbox hbr hsto ho hz hzi ixa pxa hlen
      generalize (learnB b (mkA p x)).1 = b2 at *
      obtain ⟨z, hz, hzi⟩ := AT_19.out.ads (k := k) (a := mkA p y) (by rw [List.getElem?_map, hy]; rfl)
      obtain ⟨_, _, hve⟩ := (Row.of_own AT_19.out.row).len
      have hlen : tx.length = t.length := by simpa using (congrArg (fun v => match v with | Value.slice _ n _ => n | _ => 0) hve).symm
      clear hve
      obtain ⟨pa, ixa, _, pxa⟩ := row_el okD (Row.of_own AT_19.out.row) rfl hlen hz
      go_upto_region 26 with fail
      refine ord26 _ x1 b19 k (.slice t1 t.length t3) pa z (mkA p y) c o1 o2 o3 o4 o5 o6 o7 o8 o9 o10 o11 o12 o13 o14 o15 _ _ _ _ _ _ _ _ _ _ _ _ _ _ _ _ _ _ _ _ _ _ _ _ _ _ _ _ _ _ _ _ _ _ _ _ _ _ _ _ _ _ _ _ _ _ _ _ _ _ _ _ _ _ _ _ _ _ _ _ _ _ _ _ _ _ _ _ _ _ _ _ _ _ _ _ _ _ _ _ _ _ _ _ _ _ _ _ _ _ _ _ _ _ _ _ _ _ _ _ _ _ _ _ _ _ _ _ _ _ _ _ _ _ _ _ _ _ _ _ _ _ _ _ _ _ _ _ _ _ _ _ _ _ _ _ _ _ _ _ _ _ _ _ _ _ _ _ _ _ _ _ _ _ _ _ _ _ _ _ _ _ _ _ _ _ _ _ _ _ _ _ _ _ _ _ _ _ _ _ _ _ _ _ _ _ _ _ _ _ _ X19_19.out N19_19.out ixa pxa hzi (OC_15.out.fewB tkt) (OC_15.out.fewp PLN.out) PLN.out OC_15.out.ok.seen OC_15.out.ok.adv ?_
      intro x2 v137 v138 v139 v140 v141 v142 v143 v144 v145 r1 r2 r3 r4 r5 r6 r7 r8 r9 r10 r11 r12 r13 r14 r15 hbox hbr hsto
      have ho := ord_learn OC_15.out y (not_before TN.out hy) PR.out
      rw [← take_next hy] at ho
      have X18_20 := Lib.hid (hsto.1.box X18_19.out ne)
      have X19_20 := Lib.hid (hbox)
      have N18_20 := Lib.hid (N18_19.out.keep (s1 := (o1, o2, o3)) (s2 := (o4, o5, o6)) (s3 := (o7, o8, o9)) (s4 := (o10, o11, o12)) (s5 := (o13, o14, o15)) X19_19.out hsto.1)
      have N19_20 := Lib.hid (hbr)
      have OC_20 := Lib.hid (ho)
      have AL_20 := Lib.hid (AL_19.out.but X19_19.out hsto.1)
      have AT_20 := Lib.hid (AT_19.out.but X19_19.out hsto.1)
      have GB_20 := Lib.hid (GB_19.out.trans (hsto.2 _ g19))
      clear X18_19 X19_19 N18_19 N19_19 OC_15 AL_19 AT_19 GB_19
      clear hbox hbr hsto ho hz hzi ixa pxa hlen
      generalize (learnB c (mkA p y)).1 = c2 at *
      go_wp2_with fail
      go_roundw
      case rel => exact ⟨k + 1, b2, c2, m1, m2, m3, m4, m5, m6, m7, m8, m9, m10, m11, m12, m13, m14, m15, r1, r2, r3, r4, r5, r6, r7, r8, r9, r10, r11, r12, r13, r14, r15, hlt, by go_num, X18_20.out, X19_20.out, N18_20.out, N19_20.out, OB_19.out, OC_20.out, AL_20.out, AT_20.out, GB_20.out⟩
      case measure => simp [intOf]; omega
    · obtain rfl : k = q.length := by omega
      have hob := OB_14.out
      have hoc := OC_15.out
      rw [List.take_of_length_le (Nat.le_refl _)] at hob
      rw [List.take_of_length_le (by rw [TQ.out]; exact Nat.le_refl _)] at hoc
      obtain rfl : b = c := ord_same hob hoc ME.out
      obtain ⟨ly, hd1, hd2⟩ := N18_12.out.br.adv
      obtain ⟨_, _, hve⟩ := hd1.len
      obtain rfl : s5 = q.length := by rw [show s5 = ly.length from by simpa using congrArg (fun v => match v with | Value.slice _ n _ => n | _ => 0) hve, hd2.len, hob.an]
      clear hd1 hd2 hve
      go_wp2_with fail
      exact order_28 w wr b18 b19 b nr p q s1 s2 s3 s4 s6 s7 s8 s9 s10 s11 s12 s13 s14 s15 o1 o2 o3 o4 o5 o6 o7 o8 o9 o10 o11 o12 o13 o14 o15 l1 l3 GB_18.out X18_10.out X19_11.out N18_12.out N19_13.out hob (by omega) PLN.out _ _ _ _ _ _ _ _ _ _ _ _ _ _ _ _ _ _ _ _ _ _ _ _ _ _ _ _ _ _ _ _ _ _ _ _ _ _ _ _ _ _ _ _ _ _ _ _ _ _ _ _ _ _ _ _ _ _ _ _ _ _ _ _ _ _ _ _ _ _ _ _ _ _ _ _ _ _ _ _ _ _ _ _ _ _ _ _ _ _ _ _ _ _ _ _ _ _ _ _ _ _ _ _ _ _ _ _ _ _ _ _ _ _ _ _ _ _ _ _ _ _ _ _ _ _ _ _ _ _ _ _ _ _ _ _ _ _ _ _ _ _ _ _ _ _ _ _ _ _ _ _ _ _ _ _ _ _ _ _ _ _ _ _ _ _ _ _ _ _ _ _ _ _ _ _ _ _ _ _ _ _ _ _ _ _ _ _ _ _ _
end Go.Proofs.YtonoadjmglkhaaaGreat.Av

namespace Go.Proofs.YtonoadjmglkhaaaGreat.Av
open Go.RowKit Go.Sort Go.Proofs.YtonoadjmglkhaaaGreat Go.Proofs.YtonoadjmglkhaaaGreat.Rw Go.Proofs.YtonoadjmglkhaaaGreat.Nm Go.Proofs.YtonoadjmglkhaaaGreat.Pr Go.Proofs.YtonoadjmglkhaaaGreat.Bk

theorem more_one (w : World) (o : Obj) : w.heap.size + 1 = (w.alloc o).heap.size := by simp
theorem learn_me (b : Br) (a : Ad) : (learnB b a).1.me = b.me ∧ (learnB b a).1.near = b.near := by
  unfold learnB
  split <;> exact ⟨rfl, rfl⟩
theorem forgetF_me (b : Br) (x : XID) (f : Int) : (forgetF b x f).1.me = b.me ∧ (forgetF b x f).1.near = b.near := by
  unfold forgetF
  split
  · exact ⟨rfl, rfl⟩
  · split <;> exact ⟨rfl, rfl⟩
end Go.Proofs.YtonoadjmglkhaaaGreat.Av

namespace Go.Proofs.YtonoadjmglkhaaaGreat.Av
open Go.RowKit Go.Sort Go.Proofs.YtonoadjmglkhaaaGreat Go.Proofs.YtonoadjmglkhaaaGreat.Rw Go.Proofs.YtonoadjmglkhaaaGreat.Nm Go.Proofs.YtonoadjmglkhaaaGreat.Pr Go.Proofs.YtonoadjmglkhaaaGreat.Bk

theorem nodup_le : ∀ (m l : List Int), l.Nodup → (∀ x ∈ l, x ∈ m) → l.length ≤ m.length
  | [], l, _, h => by
    cases l with
    | nil => exact Nat.le_refl _
    | cons a r => have := h a (by simp); simp at this
  | a :: m, l, hn, h => by
    have h2 := nodup_le m (l.erase a) (hn.erase a) fun x hx => by
      have h3 := (hn.mem_erase_iff).1 hx
      rcases List.mem_cons.1 (h x h3.2) with e | e
      · exact absurd e h3.1
      · exact e
    have h4 : l.length ≤ (l.erase a).length + 1 := by
      rw [List.length_erase]
      split <;> omega
    rw [List.length_cons]
    omega
theorem rise_nodup {l : List Int} (h : l.Pairwise (· < ·)) : l.Nodup := h.imp fun h => by omega
noncomputable def order_21C : Code := .seq (headN 8 (Tryz.f5.body.getD .skip)) (order_22C)
set_option maxRecDepth 100000 in
set_option maxHeartbeats 16000000 in
theorem order_21 (w W : World) (n : Nat) (near : List Int) (p : List C5) (q t : List XID) (l1 : Option Addr) (l3 : Nat) (t1 : Option Addr) (t3 : Nat) (v1 : Option Addr) (v3 : Nat) (lx tx : List XAd)
    (gb : Below w.heap.size w W) (rn : RowI W (.slice v1 near.length v3) near) (al : AdR W n (.slice l1 q.length l3) lx (q.map (mkA p))) (at_ : AdR W n (.slice t1 t.length t3) tx (t.map (mkA p))) (qn : q.Nodup) (tn : t.Nodup) (tq : t.length = q.length) (mem : ∀ x, x ∈ q ↔ x ∈ t) (ql : q.length ≤ 8) (nl : near.length ≤ 6) (pl : p.length ≤ 900) (pr : Wr.rightP p = true)
    (u0 u1 u2 u3 u4 u5 u6 u7 u8 u10 u11 u12 u14 u15 u17 u18 u19 u20 u21 u22 u23 u24 u25 u26 u27 u28 u29 u30 u31 u32 u33 u34 u35 u36 u37 u38 u39 u40 u41 u42 u43 u44 u45 u46 u47 u48 u49 u50 u51 u52 u53 u54 u55 u56 u57 u58 u59 u60 u61 u62 u63 u64 u65 u66 u67 u68 u69 u70 u71 u72 u73 u74 u75 u76 u77 u78 u79 u80 u81 u82 u83 u84 u85 u86 u87 u88 u89 u90 u91 u92 u93 u94 u95 u96 u97 u98 u99 u100 u101 u102 u103 u104 u105 u106 u107 u108 u109 u110 u111 u112 u113 u114 u115 u116 u117 u118 u119 u120 u121 u122 u123 u124 u125 u126 u127 u128 u129 u130 u131 u132 u133 u134 u135 u136 u137 u138 u139 u140 u141 u142 u143 u144 u145 u146 u147 u148 u149 u150 u151 u152 u153 u154 u155 u156 u157 u158 u159 u160 u161 u162 u163 u164 u165 u166 u167 u168 u169 u170 u171 u172 u173 u174 u175 u176 u177 u178 u179 u180 u181 u182 u183 u184 u185 u186 u187 u188 u189 u190 u191 u192 u193 : Value) :
    Code.wp Tryz.prog order_21C (bodyPost Tryz.prog Tryz.f5 (OrdQ w)) ⟨(u0 :: u1 :: u2 :: u3 :: u4 :: u5 :: u6 :: u7 :: u8 :: .slice l1 q.length l3 :: u10 :: u11 :: u12 :: .slice t1 t.length t3 :: u14 :: u15 :: .slice v1 near.length v3 :: u17 :: u18 :: u19 :: u20 :: u21 :: u22 :: u23 :: u24 :: u25 :: u26 :: u27 :: u28 :: u29 :: u30 :: u31 :: u32 :: u33 :: u34 :: u35 :: u36 :: u37 :: u38 :: u39 :: u40 :: u41 :: u42 :: u43 :: u44 :: u45 :: u46 :: u47 :: u48 :: u49 :: u50 :: u51 :: u52 :: u53 :: u54 :: u55 :: u56 :: u57 :: u58 :: u59 :: u60 :: u61 :: u62 :: u63 :: u64 :: u65 :: u66 :: u67 :: u68 :: u69 :: u70 :: u71 :: u72 :: u73 :: u74 :: u75 :: u76 :: u77 :: u78 :: u79 :: u80 :: u81 :: u82 :: u83 :: u84 :: u85 :: u86 :: u87 :: u88 :: u89 :: u90 :: u91 :: u92 :: u93 :: u94 :: u95 :: u96 :: u97 :: u98 :: u99 :: u100 :: u101 :: u102 :: u103 :: u104 :: u105 :: u106 :: u107 :: u108 :: u109 :: u110 :: u111 :: u112 :: u113 :: u114 :: u115 :: u116 :: u117 :: u118 :: u119 :: u120 :: u121 :: u122 :: u123 :: u124 :: u125 :: u126 :: u127 :: u128 :: u129 :: u130 :: u131 :: u132 :: u133 :: u134 :: u135 :: u136 :: u137 :: u138 :: u139 :: u140 :: u141 :: u142 :: u143 :: u144 :: u145 :: u146 :: u147 :: u148 :: u149 :: u150 :: u151 :: u152 :: u153 :: u154 :: u155 :: u156 :: u157 :: u158 :: u159 :: u160 :: u161 :: u162 :: u163 :: u164 :: u165 :: u166 :: u167 :: u168 :: u169 :: u170 :: u171 :: u172 :: u173 :: u174 :: u175 :: u176 :: u177 :: u178 :: u179 :: u180 :: u181 :: u182 :: u183 :: u184 :: u185 :: u186 :: u187 :: u188 :: u189 :: u190 :: u191 :: u192 :: u193 :: []).toArray, []⟩ W := by
  have GB_1 := Lib.hid (gb)
  have RN_2 := Lib.hid (rn)
  have AL_3 := Lib.hid (al)
  have AT_4 := Lib.hid (at_)
  clear gb rn al at_
  have QN := Lib.hid qn
  have TN := Lib.hid tn
  have TQ := Lib.hid tq
  have ME := Lib.hid mem
  have PLN := Lib.hid pl
  have PR := Lib.hid pr
  have QL := Lib.hid ql
  have NL := Lib.hid nl
  clear qn tn tq mem pl pr ql nl
  unfold order_21C
  conv => enter [2, 1]; whnf
  go_wp2_with fail
  refine (anew_any 11 (v1, near.length, v3) near W RN_2.out (by have := NL.out; omega)).mono ?_
  rintro e1 w1 ⟨⟨nr, ⟨m1, m2, m3⟩, rfl, hbr, ⟨B, ho⟩, hp, hm⟩, hb⟩
  have GB_5 := Lib.hid (GB_1.out.trans (hb.mono GB_1.out.size))
  have RN_5 := Lib.hid (RN_2.out.on hb)
  have AL_5 := Lib.hid (AL_3.out.on hb)
  have AT_5 := Lib.hid (AT_4.out.on hb)
  clear GB_1 RN_2 AL_3 AT_4
  have N18_6 := Lib.hid (BrN.mk hbr ⟨B, ho⟩)
  have HP := Lib.hid hp
  have HM := Lib.hid hm
  clear hbr ho hp hm hb
  have NB := newB w1 (.cells #[] 3)
  obtain ⟨va, x1, q1, oa, ga⟩ := app_fresh Nm.okI (w := w1.alloc (.cells #[] 3)) w1.heap.size (box_new w1 #[] 3) (Nat.le_refl _) (RN_5.out.on NB) (by have := NL.out; omega) 23
  have G1 := NB.trans (ga.mono NB.size)
  obtain ⟨vb, x2, q2, ob, gb⟩ := app_row Nm.okI w1.heap.size oa (RN_5.out.on G1) (by have := NL.out; omega) (by have := NL.out; omega) G1.size 23
  have G2 := G1.grown gb G1.size (fun j hj => (oa.lt j hj).1)
  obtain ⟨a2, c2, rfl⟩ := (Row.of_own ob).len
  have OB := Lib.hid (Row.of_own ob)
  obtain ⟨n2, hn2⟩ : ∃ n2, n2 = (near ++ near).length := ⟨_, rfl⟩
  rw [← hn2] at OB q2
  clear hn2
  have GB_7 := Lib.hid (GB_5.out.trans (G2.mono GB_5.out.size))
  have RN_7 := Lib.hid (RN_5.out.on G2)
  have AL_7 := Lib.hid (AL_5.out.on G2)
  have AT_7 := Lib.hid (AT_5.out.on G2)
  have N18_7 := Lib.hid (N18_6.out.on G2)
  clear GB_5 RN_5 AL_5 AT_5 N18_6
  clear NB ga oa gb ob G1 G2
  go_wp2_with (first | (at_builtin; refine wpList_append_run rfl _ _ 23 rfl rfl rfl q1 ?_) | (at_builtin; refine wpList_append_run rfl _ _ 23 rfl rfl rfl q2 ?_) | fail)
  refine (anew_any 11 (a2, n2, c2) (near ++ near) x2 OB.out (by rw [List.length_append]; have := NL.out; omega)).mono ?_
  rintro e2 w2 ⟨⟨nr2, ⟨r1, r2, r3⟩, rfl, hbr, ⟨B2, ho⟩, hp, hm⟩, hb⟩
  obtain rfl : nr2 = nr := rise_uniq hp HP.out (fun x => by rw [hm, HM.out]; simp)
  have GB_8 := Lib.hid (GB_7.out.trans (hb.mono GB_7.out.size))
  have RN_8 := Lib.hid (RN_7.out.on hb)
  have AL_8 := Lib.hid (AL_7.out.on hb)
  have AT_8 := Lib.hid (AT_7.out.on hb)
  have N18_8 := Lib.hid (N18_7.out.on hb)
  clear GB_7 RN_7 AL_7 AT_7 N18_7
  have N19_9 := Lib.hid (BrN.mk hbr ⟨B2, ho⟩)
  clear hbr ho hp hm hb OB q1 q2
  have GW := Lib.hid GB_8.out.size
  have NRL := Lib.hid (show nr2.length ≤ 900 from Nat.le_trans (nodup_le near nr2 (rise_nodup HP.out) fun x hx => (HM.out x).1 hx) (by have := NL.out; omega))
  have NN := newB w2 (.cells #[.int .i64 11, .slice m1 m2 m3, .slice none 0 0, .slice none 0 0, .slice none 0 0, .slice none 0 0] 29)
  have GB_10 := Lib.hid (GB_8.out.trans (NN.mono GB_8.out.size))
  have RN_10 := Lib.hid (RN_8.out.on NN)
  have AL_10 := Lib.hid (AL_8.out.on NN)
  have AT_10 := Lib.hid (AT_8.out.on NN)
  have N18_10 := Lib.hid (N18_8.out.on NN)
  have N19_10 := Lib.hid (N19_9.out.on NN)
  clear GB_8 RN_8 AL_8 AT_8 N18_8 N19_9
  clear NN
  have X18_11 := Lib.hid (box_new w2 #[.int .i64 11, .slice m1 m2 m3, .slice none 0 0, .slice none 0 0, .slice none 0 0, .slice none 0 0] 29)
  have S9 := more_one w2 (.cells #[.int .i64 11, .slice m1 m2 m3, .slice none 0 0, .slice none 0 0, .slice none 0 0, .slice none 0 0] 29)
  have W2 := Lib.hid (show w2.heap.size < (w2.alloc (.cells #[.int .i64 11, .slice m1 m2 m3, .slice none 0 0, .slice none 0 0, .slice none 0 0, .slice none 0 0] 29)).heap.size from by simp)
  have NN := newB (w2.alloc (.cells #[.int .i64 11, .slice m1 m2 m3, .slice none 0 0, .slice none 0 0, .slice none 0 0, .slice none 0 0] 29)) (.cells #[.int .i64 11, .slice r1 r2 r3, .slice none 0 0, .slice none 0 0, .slice none 0 0, .slice none 0 0] 29)
  have GB_12 := Lib.hid (GB_10.out.trans (NN.mono GB_10.out.size))
  have RN_12 := Lib.hid (RN_10.out.on NN)
  have AL_12 := Lib.hid (AL_10.out.on NN)
  have AT_12 := Lib.hid (AT_10.out.on NN)
  have N18_12 := Lib.hid (N18_10.out.on NN)
  have N19_12 := Lib.hid (N19_10.out.on NN)
  have X18_12 := Lib.hid (X18_11.out.on NN)
  clear GB_10 RN_10 AL_10 AT_10 N18_10 N19_10 X18_11
  clear NN
  have X19_13 := Lib.hid (box_new (w2.alloc (.cells #[.int .i64 11, .slice m1 m2 m3, .slice none 0 0, .slice none 0 0, .slice none 0 0, .slice none 0 0] 29)) #[.int .i64 11, .slice r1 r2 r3, .slice none 0 0, .slice none 0 0, .slice none 0 0, .slice none 0 0] 29)
  rw [← S9] at X19_13
  clear S9 W2
  go_wp2_with fail
  generalize (w2.alloc (.cells #[.int .i64 11, .slice m1 m2 m3, .slice none 0 0, .slice none 0 0, .slice none 0 0, .slice none 0 0] 29)).alloc (.cells #[.int .i64 11, .slice r1 r2 r3, .slice none 0 0, .slice none 0 0, .slice none 0 0, .slice none 0 0] 29) = w3 at *
  exact order_22 w w3 n w2.heap.size (w2.heap.size + 1) nr2 p q t (newB0 11 nr2) (newB0 11 nr2) m1 m2 m3 none 0 0 none 0 0 none 0 0 none 0 0 r1 r2 r3 none 0 0 none 0 0 none 0 0 none 0 0 l1 l3 t1 t3 lx tx GB_12.out X18_12.out X19_13.out N18_12.out N19_12.out (ord_new HP.out NRL.out) (ord_new HP.out NRL.out) AL_12.out AT_12.out QN.out TN.out TQ.out ME.out QL.out PLN.out PR.out GW.out (Nat.le_succ_of_le GW.out) (by omega) _ _ _ _ _ _ _ _ _ _ _ _ _ _ _ _ _ _ _ _ _ _ _ _ _ _ _ _ _ _ _ _ _ _ _ _ _ _ _ _ _ _ _ _ _ _ _ _ _ _ _ _ _ _ _ _ _ _ _ _ _ _ _ _ _ _ _ _ _ _ _ _ _ _ _ _ _ _ _ _ _ _ _ _ _ _ _ _ _ _ _ _ _ _ _ _ _ _ _ _ _ _ _ _ _ _ _ _ _ _ _ _ _ _ _ _ _ _ _ _ _ _ _ _ _ _ _ _ _ _ _ _ _ _ _ _ _ _ _ _ _ _ _ _ _ _ _ _ _ _ _ _ _ _ _ _ _ _ _ _ _ _ _ _ _ _ _ _ _ _ _ _ _ _ _ _ _ _ _ _ _ _ _ _ _ _ _ _ _ _
end Go.Proofs.YtonoadjmglkhaaaGreat.Av
