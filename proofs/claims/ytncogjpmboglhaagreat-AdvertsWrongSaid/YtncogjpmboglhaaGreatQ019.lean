/-
  Numbers as eight bytes, and back; what a reader of bytes takes. Conditions as told.
-/
import Derived.IntWalk
import Derived.Test.YtncogjpmboglhaaGreatQ018
import Derived.Lib.QuietBelow
import Derived.BigQuiet
import Derived.Test.YtncogjpmboglhaaGreatQ015
import Derived.Test.YtncogjpmboglhaaGreatQ016
import Derived.Test.YtncogjpmboglhaaGreatQ012
import Derived.Deep.LoopGhost
import Derived.Laws.Externs
set_option maxRecDepth 100000
set_option maxHeartbeats 64000000
namespace Go.Proofs.YtncogjpmboglhaaGreat.Nm
end Go.Proofs.YtncogjpmboglhaaGreat.Nm
namespace Go.Proofs.YtncogjpmboglhaaGreat.Bk
open Go.RowKit Go.Sort Rw YtncogjpmboglhaaGreat.Nm
theorem take_eq {α : Type} {a b : List α} {k : Nat} {x y : α} (h : a.take k = b.take k) (hx : a[k]? = some x) (hy : b[k]? = some y) (e : x = y) : a.take (k + 1) = b.take (k + 1) := by
 rw [List.take_add_one,List.take_add_one,hx,hy,h,e]
theorem sameI (av bv : Value) (a b : List Int) (w : World) (ha : RowI w av a) (hb : RowI w bv b) :
  Calls Tryz.prog 63 #[av,bv] w fun e w' => e = .returned (.bool (decide (a = b))) ∧ Below w.heap.size w w' := by
 have HA := Lib.hid ha
 have HB := Lib.hid hb
 have ma := ha.most
 have mb := hb.most
 unfold maxLen at ma mb
 obtain ⟨ao,ac,rfl⟩ := ha.len
 obtain ⟨bo,bc,rfl⟩ := hb.len
 clear ha hb
 by_cases hl : a.length = b.length
 ·obtain ⟨n,hn⟩ : ∃ n,n = a.length := ⟨_,rfl⟩
  have NA := Lib.hid hn.symm
  have NB := Lib.hid (hl.symm.trans hn.symm)
  rw [← hl,← hn] at HB
  rw [← hn] at HA ma
  rw [← hl,← hn]
  clear hl hn mb
  go_enter Tryz.func63,Tryz.ntmps63
  go_wp2
  go_loopw [5] (fun i wr => ∃ k : Nat,k ≤ n ∧ i = .int .i64 k ∧ a.take k = b.take k ∧ Below w.heap.size w wr) (fun i _ => n - (intOf i).toNat)
  case atStart => exact ⟨0,Nat.zero_le _,rfl,rfl,Below.refl _ _⟩
  case round =>
   obtain ⟨k,hk,rfl,htk,hbe⟩ := hrel
   have TK := Lib.hid htk
   have BE := Lib.hid hbe
   clear hbe htk
   by_cases hlt : k < n
   ·obtain ⟨x,hx⟩ : ∃ x,a[k]? = some x := ⟨_,List.getElem?_eq_getElem (by rw [NA.out]; exact hlt)⟩
    obtain ⟨y,hy⟩ : ∃ y,b[k]? = some y := ⟨_,List.getElem?_eq_getElem (by rw [NB.out]; exact hlt)⟩
    obtain ⟨p,ix,_,px⟩ := elI HA.out rfl NA.out hx
    obtain ⟨q,iy,_,py⟩ := elI HB.out rfl NB.out hy
    have p0 := cell_regrown (px _ BE.out)
    have q0 := cell_regrown (py _ BE.out)
    obtain ⟨r,hr⟩ : ∃ r,((x : Int) == (y : Int)) = r := ⟨_,rfl⟩
    have HX := Lib.hid hx
    have HY := Lib.hid hy
    have HR := Lib.hid hr
    clear px py hx hy
    go_wp2
    have hr2 : ((x : Int) != (y : Int)) = !r := by unfold bne; rw [hr]
    cases r
    all_goals
     simp only [Bool.not_true,Bool.not_false] at hr2
     refine wp_region_quiet_below (by kernel_rfl) (by kernel_rfl) ?_
     repeat (go_big_quiet_step (fail))
     refine wpQuiet_nil ?_
     intro _ hw'
     obtain ⟨⟨dq,osq⟩,hw''⟩ := hw'
     subst hw''
     have BN := Lib.hid (BE.out.trans ((below_regrown wr dq osq).mono BE.out.size))
     clear p0 q0 ix iy hr
    ·go_wp2
     go_ret
     refine ⟨?_,BN.out⟩
     have hne : a ≠ b := fun e => by
      have h1 := HX.out
      rw [e,HY.out] at h1
      cases h1
      have h2 := HR.out
      simp at h2
     rw [decide_eq_false hne]
     rfl
    ·have TN := Lib.hid (take_eq TK.out HX.out HY.out (by have h := HR.out; rw [beq_iff_eq] at h; exact h))
     go_wp2
     go_roundw
     case rel => exact ⟨k + 1,by omega,by go_num,TN.out,BN.out⟩
     case measure => simp [intOf]; omega
   ·obtain rfl : k = n := by omega
    have EQ := Lib.hid (show a = b by have h := TK.out; rwa [List.take_of_length_le (by rw [NA.out]; exact Nat.le_refl _),List.take_of_length_le (by rw [NB.out]; exact Nat.le_refl _)] at h)
    go_wp2
    go_ret
    exact ⟨by rw [decide_eq_true EQ.out]; rfl,BE.out⟩
 ·have hd : ((a.length : Int) == (b.length : Int)) = false := by simp; omega
  have hd2 : (a.length == b.length) = false := by simp; exact hl
  have E := Lib.hid (decide_eq_false (show ¬ a = b from fun e => hl (by rw [e])))
  have HD := Lib.hid hl
  clear hl
  go_enter Tryz.func63,Tryz.ntmps63
  go_wp2
  go_ret
  exact ⟨by rw [E.out]; rfl,Below.refl _ _⟩
end Go.Proofs.YtncogjpmboglhaaGreat.Bk
namespace Go.Proofs.YtncogjpmboglhaaGreat.Bk
open Go.RowKit Rw YtncogjpmboglhaaGreat.Nm Pr
noncomputable def addR9 : Code := ((Tryz.f17.body.bind (findRegion 9)).getD .skip)
structure P9 (base : Act) (v0 v2 : Value) (p : Value) (W W' : World) (L : Array Bool) (a : Act) (x : World) : Prop where
 df : a.defers = base.defers
 sz : a.tmps.size = base.tmps.size
 kp : ∀ j,j ≠ 112 → j ≠ 113 → j ≠ 114 → j ≠ 5 → a.tmps[j]? = base.tmps[j]?
 t0 : Rg.done L 0 → a.tmps[112]? = some v0
 t1 : Rg.done L 1 → a.tmps[113]? = some p
 t2 : Rg.done L 2 → a.tmps[114]? = some v2
 t4 : Rg.done L 4 → a.tmps[5]? = some v2
 w0 : ¬ Rg.done L 3 → x = W.drew
 w1 : Rg.done L 3 → x = W'
 c3 : Rg.done L 3 → Rg.done L 0
theorem add_r9 (Q : Exit → Act → World → Prop) (W : World) (b2 b3 b4 : Nat) (me : Int) (o1 o2 o3 o4 o5 : Option Addr) (n1 c1 n2 c2 n3 c3 n4 c4 n5 c5 : Nat) (e0 e1 e2 e3 e4 e5 z0 z1 z2 z3 z4 z5 : Value) (up : Bool) (u0 u1 u5 u6 u7 u8 u9 u10 u11 u12 u13 u14 u15 u16 u17 u18 u19 u20 u21 u22 u23 u24 u25 u26 u27 u28 u29 u30 u31 u32 u33 u34 u35 u36 u37 u38 u39 u40 u41 u42 u43 u44 u45 u46 u47 u48 u49 u50 u51 u52 u53 u54 u55 u56 u57 u58 u59 u60 u61 u62 u63 u64 u65 u66 u67 u68 u69 u70 u71 u72 u73 u74 u75 u76 u77 u78 u79 u80 u81 u82 u83 u84 u85 u86 u87 u88 u89 u90 u91 u92 u93 u94 u95 u96 u97 u98 u99 u100 u101 u102 u103 u104 u105 u106 u107 u108 u109 u110 u111 u112 u113 u114 : Value)
  (h2 : Box W b2 #[.int .i64 me,.slice o1 n1 c1,.slice o2 n2 c2,.slice o3 n3 c3,.slice o4 n4 c4,.slice o5 n5 c5] 31) (h3 : Box W b3 #[e0,e1,e2,e3,e4,e5,.bool up] 43) (h4 : Box W b4 #[z0,z1,z2,z3,z4,z5] 31) (hne : b3 ≠ b4)
  (hQ : ∀ (a : Act) (x : World),a.defers = [] → a.tmps[4]? = some (.pointer (some ⟨b4,0,none⟩)) → a.tmps[5]? = some (.bool up) → x = setB W.drew b4 (.int .i64 me) (.slice o1 n1 c1) (.slice o2 n2 c2) (.slice o3 n3 c3) (.slice o4 n4 c4) (.slice o5 n5 c5) → Q .normal a x) :
  Code.wp Tryz.prog addR9 Q ⟨(u0 :: u1 :: .pointer (some ⟨b2,0,none⟩) :: .pointer (some ⟨b3,0,none⟩) :: .pointer (some ⟨b4,0,none⟩) :: u5 :: u6 :: u7 :: u8 :: u9 :: u10 :: u11 :: u12 :: u13 :: u14 :: u15 :: u16 :: u17 :: u18 :: u19 :: u20 :: u21 :: u22 :: u23 :: u24 :: u25 :: u26 :: u27 :: u28 :: u29 :: u30 :: u31 :: u32 :: u33 :: u34 :: u35 :: u36 :: u37 :: u38 :: u39 :: u40 :: u41 :: u42 :: u43 :: u44 :: u45 :: u46 :: u47 :: u48 :: u49 :: u50 :: u51 :: u52 :: u53 :: u54 :: u55 :: u56 :: u57 :: u58 :: u59 :: u60 :: u61 :: u62 :: u63 :: u64 :: u65 :: u66 :: u67 :: u68 :: u69 :: u70 :: u71 :: u72 :: u73 :: u74 :: u75 :: u76 :: u77 :: u78 :: u79 :: u80 :: u81 :: u82 :: u83 :: u84 :: u85 :: u86 :: u87 :: u88 :: u89 :: u90 :: u91 :: u92 :: u93 :: u94 :: u95 :: u96 :: u97 :: u98 :: u99 :: u100 :: u101 :: u102 :: u103 :: u104 :: u105 :: u106 :: u107 :: u108 :: u109 :: u110 :: u111 :: u112 :: u113 :: u114 :: []).toArray,[]⟩ W := by
 have HQ := Lib.hid hQ
 have H2 := Lib.hid h2.drew
 have H3 := Lib.hid h3.drew
 have H4 := Lib.hid h4.drew
 have X3 := Lib.hid (show Box (setB W.drew b4 (.int .i64 me) (.slice o1 n1 c1) (.slice o2 n2 c2) (.slice o3 n3 c3) (.slice o4 n4 c4) (.slice o5 n5 c5)) b3 #[e0,e1,e2,e3,e4,e5,.bool up] 43 from (setB_heap W.drew b4 (.int .i64 me) (.slice o1 n1 c1) (.slice o2 n2 c2) (.slice o3 n3 c3) (.slice o4 n4 c4) (.slice o5 n5 c5) b3 hne).trans h3.drew)
 clear hQ h2 h3 h4 hne
 unfold addR9
 conv => arg 2; whnf
 obtain ⟨base,hbase⟩ : ∃ b : Act,b = ⟨(u0 :: u1 :: .pointer (some ⟨b2,0,none⟩) :: .pointer (some ⟨b3,0,none⟩) :: .pointer (some ⟨b4,0,none⟩) :: u5 :: u6 :: u7 :: u8 :: u9 :: u10 :: u11 :: u12 :: u13 :: u14 :: u15 :: u16 :: u17 :: u18 :: u19 :: u20 :: u21 :: u22 :: u23 :: u24 :: u25 :: u26 :: u27 :: u28 :: u29 :: u30 :: u31 :: u32 :: u33 :: u34 :: u35 :: u36 :: u37 :: u38 :: u39 :: u40 :: u41 :: u42 :: u43 :: u44 :: u45 :: u46 :: u47 :: u48 :: u49 :: u50 :: u51 :: u52 :: u53 :: u54 :: u55 :: u56 :: u57 :: u58 :: u59 :: u60 :: u61 :: u62 :: u63 :: u64 :: u65 :: u66 :: u67 :: u68 :: u69 :: u70 :: u71 :: u72 :: u73 :: u74 :: u75 :: u76 :: u77 :: u78 :: u79 :: u80 :: u81 :: u82 :: u83 :: u84 :: u85 :: u86 :: u87 :: u88 :: u89 :: u90 :: u91 :: u92 :: u93 :: u94 :: u95 :: u96 :: u97 :: u98 :: u99 :: u100 :: u101 :: u102 :: u103 :: u104 :: u105 :: u106 :: u107 :: u108 :: u109 :: u110 :: u111 :: u112 :: u113 :: u114 :: []).toArray,[]⟩ := ⟨_,rfl⟩
 have b2t : base.tmps[2]? = some (.pointer (some ⟨b2,0,none⟩)) := by rw [hbase]; rfl
 have b3t : base.tmps[3]? = some (.pointer (some ⟨b3,0,none⟩)) := by rw [hbase]; rfl
 have b4t : base.tmps[4]? = some (.pointer (some ⟨b4,0,none⟩)) := by rw [hbase]; rfl
 have bsz : base.tmps.size = 115 := by rw [hbase]; rfl
 have bdf : base.defers = [] := by rw [hbase]
 rw [← hbase]
 clear hbase
 generalize hW' : setB W.drew b4 (.int .i64 me) (.slice o1 n1 c1) (.slice o2 n2 c2) (.slice o3 n3 c3) (.slice o4 n4 c4) (.slice o5 n5 c5) = W' at *
 refine Rg.region_inv (fun L a x => P9 base (.agg #[.int .i64 me,.slice o1 n1 c1,.slice o2 n2 c2,.slice o3 n3 c3,.slice o4 n4 c4,.slice o5 n5 c5]) (.bool up) (.pointer (some ⟨b3,6,none⟩)) W W' L a x) (by kernel_rfl) (by kernel_rfl) ?_ ?_ ?_
 ·exact ⟨rfl,rfl,fun _ _ _ _ _ => rfl,fun h => absurd h (Rg.none_done _ _),fun h => absurd h (Rg.none_done _ _),fun h => absurd h (Rg.none_done _ _),fun h => absurd h (Rg.none_done _ _),fun _ => rfl,fun h => absurd h (Rg.none_done _ _),fun h => absurd h (Rg.none_done _ _)⟩
 ·intro L a x i o hsz I ho hnd hdep
  have hi : i < 5 := (List.getElem?_eq_some_iff.1 ho).1
  have hL : L.size = 5 := hsz
  have hiL : i < L.size := by omega
  have k2 : a.eval (.tmp 2) = .pointer (some ⟨b2,0,none⟩) := Rg.eval_some ((I.kp 2 (by decide) (by decide) (by decide) (by decide)).trans b2t)
  have k3 : a.eval (.tmp 3) = .pointer (some ⟨b3,0,none⟩) := Rg.eval_some ((I.kp 3 (by decide) (by decide) (by decide) (by decide)).trans b3t)
  have k4 : a.eval (.tmp 4) = .pointer (some ⟨b4,0,none⟩) := Rg.eval_some ((I.kp 4 (by decide) (by decide) (by decide) (by decide)).trans b4t)
  have asz : a.tmps.size = 115 := I.sz.trans bsz
  have self : ∀ (d : Nat) (v : Value),d < 115 → (a.put (some d) v).tmps[d]? = some v := fun d v hd => by
   have : d < a.tmps.size := by omega
   simp [Act.put,this]
  have ds := fun j => Rg.done_set hiL j
  rcases (by omega : i = 0 ∨ i = 1 ∨ i = 2 ∨ i = 3 ∨ i = 4) with rfl | rfl | rfl | rfl | rfl
  ·obtain rfl := Option.some.inj ho
   have hx : x = W.drew := I.w0 fun h => hnd (I.c3 h)
   exact Rg.op_value rfl rfl (Rg.ex_load a.eval _ 31 (.tmp 2) rfl (by rw [k2,hx]; exact loadBr H2.out)) ⟨I.df,(Rg.size_put a _ _).trans I.sz,fun j j1 j2 j3 j4 => (Rg.get_put _ _ _ j (by omega)).trans (I.kp j j1 j2 j3 j4),fun _ => self 112 _ (by decide),fun h => (Rg.get_put _ _ _ 113 (by decide)).trans (I.t1 (((ds 1).1 h).resolve_left (by decide))),fun h => (Rg.get_put _ _ _ 114 (by decide)).trans (I.t2 (((ds 2).1 h).resolve_left (by decide))),fun h => (Rg.get_put _ _ _ 5 (by decide)).trans (I.t4 (((ds 4).1 h).resolve_left (by decide))),fun h => I.w0 fun h3 => h ((ds 3).2 (Or.inr h3)),fun h => I.w1 (((ds 3).1 h).resolve_left (by decide)),fun h => (ds 0).2 (Or.inl rfl)⟩
  ·obtain rfl := Option.some.inj ho
   exact Rg.op_value rfl rfl (Rg.ex_field a.eval _ 43 (.tmp 3) 4 rfl (by rw [k3]; simp [go_sem])) ⟨I.df,(Rg.size_put a _ _).trans I.sz,fun j j1 j2 j3 j4 => (Rg.get_put _ _ _ j (by omega)).trans (I.kp j j1 j2 j3 j4),fun h => (Rg.get_put _ _ _ 112 (by decide)).trans (I.t0 (((ds 0).1 h).resolve_left (by decide))),fun _ => self 113 _ (by decide),fun h => (Rg.get_put _ _ _ 114 (by decide)).trans (I.t2 (((ds 2).1 h).resolve_left (by decide))),fun h => (Rg.get_put _ _ _ 5 (by decide)).trans (I.t4 (((ds 4).1 h).resolve_left (by decide))),fun h => I.w0 fun h3 => h ((ds 3).2 (Or.inr h3)),fun h => I.w1 (((ds 3).1 h).resolve_left (by decide)),fun h => (ds 0).2 (Or.inr (I.c3 (((ds 3).1 h).resolve_left (by decide))))⟩
  ·obtain rfl := Option.some.inj ho
   have k113 : a.eval (.tmp 113) = .pointer (some ⟨b3,6,none⟩) := Rg.eval_some (I.t1 (hdep ⟨1,.data⟩ (by simp) rfl))
   have hc : x.cell? ⟨b3,6,none⟩ = some (.bool up) := by
    by_cases h3 : Rg.done L 3
    ·rw [I.w1 h3]; exact X3.out.cell 6
    ·rw [I.w0 h3]; exact H3.out.cell 6
   exact Rg.op_value rfl rfl (Rg.ex_load a.eval _ 4 (.tmp 113) rfl (by rw [k113]; simp [go_sem,hc])) ⟨I.df,(Rg.size_put a _ _).trans I.sz,fun j j1 j2 j3 j4 => (Rg.get_put _ _ _ j (by omega)).trans (I.kp j j1 j2 j3 j4),fun h => (Rg.get_put _ _ _ 112 (by decide)).trans (I.t0 (((ds 0).1 h).resolve_left (by decide))),fun h => (Rg.get_put _ _ _ 113 (by decide)).trans (I.t1 (((ds 1).1 h).resolve_left (by decide))),fun _ => self 114 _ (by decide),fun h => (Rg.get_put _ _ _ 5 (by decide)).trans (I.t4 (((ds 4).1 h).resolve_left (by decide))),fun h => I.w0 fun h3 => h ((ds 3).2 (Or.inr h3)),fun h => I.w1 (((ds 3).1 h).resolve_left (by decide)),fun h => (ds 0).2 (Or.inr (I.c3 (((ds 3).1 h).resolve_left (by decide))))⟩
  ·obtain rfl := Option.some.inj ho
   have hx : x = W.drew := I.w0 hnd
   refine Rg.op_store 31 (.tmp 4) (.tmp 112) rfl rfl rfl rfl k4 (Rg.eval_some (I.t0 (hdep ⟨0,.data⟩ (by simp) rfl))) (w' := W') (by rw [hx,← hW']; exact storeBr H4.out me _ _ _ _ _ _ _ _ _ _ _ _ _ _ _) ?_
   exact ⟨I.df,I.sz,I.kp,fun h => I.t0 (((ds 0).1 h).resolve_left (by decide)),fun h => I.t1 (((ds 1).1 h).resolve_left (by decide)),fun h => I.t2 (((ds 2).1 h).resolve_left (by decide)),fun h => I.t4 (((ds 4).1 h).resolve_left (by decide)),fun h => absurd ((ds 3).2 (Or.inl rfl)) h,fun _ => rfl,fun _ => (ds 0).2 (Or.inr (hdep ⟨0,.data⟩ (by simp) rfl))⟩
  ·obtain rfl := Option.some.inj ho
   have k114 : a.eval (.tmp 114) = .bool up := Rg.eval_some (I.t2 (hdep ⟨2,.data⟩ (by simp) rfl))
   exact Rg.op_value rfl rfl (Rg.ex_assign a.eval _ (.tmp 114) rfl x) (by rw [k114]; exact ⟨I.df,(Rg.size_put a _ _).trans I.sz,fun j j1 j2 j3 j4 => (Rg.get_put _ _ _ j (by omega)).trans (I.kp j j1 j2 j3 j4),fun h => (Rg.get_put _ _ _ 112 (by decide)).trans (I.t0 (((ds 0).1 h).resolve_left (by decide))),fun h => (Rg.get_put _ _ _ 113 (by decide)).trans (I.t1 (((ds 1).1 h).resolve_left (by decide))),fun h => (Rg.get_put _ _ _ 114 (by decide)).trans (I.t2 (((ds 2).1 h).resolve_left (by decide))),fun _ => self 5 _ (by decide),fun h => I.w0 fun h3 => h ((ds 3).2 (Or.inr h3)),fun h => I.w1 (((ds 3).1 h).resolve_left (by decide)),fun h => (ds 0).2 (Or.inr (I.c3 (((ds 3).1 h).resolve_left (by decide))))⟩)
 ·intro L a x I hd
  exact HQ.out a x (I.df.trans bdf) ((I.kp 4 (by decide) (by decide) (by decide) (by decide)).trans b4t) (I.t4 (hd 4 (by decide))) ((I.w1 (hd 3 (by decide))))
end Go.Proofs.YtncogjpmboglhaaGreat.Bk
namespace Go.Proofs.YtncogjpmboglhaaGreat.Pr
open Go.RowKit Go.Sort Pu Rw Va
theorem el_regrown {W W1 : World} {v : Value} {l : List C5} {ao : Option Addr} {n c k : Nat} {x : C5} (h : RowC W v l) (hv : v = .slice ao n c) (hn : l.length = n) (hk : l[k]? = some x) (hb : Below W.heap.size W W1) :
  ∃ p : Addr,(∀ w,(Instr.indexAt 39 (.slice ao n c) (.int .i64 k)).run Tryz.prog w = .ok (.pointer (some p)) w) ∧
   (∀ d os,(grow (redrawn W1 d) os).cell? p = some (.string x.1)) ∧ (∀ d os,(grow (redrawn W1 d) os).cell? ⟨p.block,p.off + 1,none⟩ = some (.int .i64 x.2.1)) ∧ (∀ d os,(grow (redrawn W1 d) os).cell? ⟨p.block,p.off + 2,none⟩ = some (.int .i64 x.2.2.1)) ∧ (∀ d os,(grow (redrawn W1 d) os).cell? ⟨p.block,p.off + 3,none⟩ = some (.int .i64 x.2.2.2.1)) ∧ (∀ d os,(grow (redrawn W1 d) os).cell? ⟨p.block,p.off + 4,none⟩ = some (.string x.2.2.2.2)) := by
 obtain ⟨p,h1,h2⟩ := elC h hv hn hk
 obtain ⟨c0,c1,c2,c3,c4⟩ := h2 _ hb
 exact ⟨p,h1,cell_regrown c0,cell_regrown c1,cell_regrown c2,cell_regrown c3,cell_regrown c4⟩
theorem box_regrown {W : World} {b : Nat} {c : C5} (h : Box W b (cells5 c).toArray 47) : (∀ d os,(grow (redrawn W d) os).cell? ⟨b,0,none⟩ = some (.string c.1)) ∧ (∀ d os,(grow (redrawn W d) os).cell? ⟨b,1,none⟩ = some (.int .i64 c.2.1)) ∧ (∀ d os,(grow (redrawn W d) os).cell? ⟨b,2,none⟩ = some (.int .i64 c.2.2.1)) ∧ (∀ d os,(grow (redrawn W d) os).cell? ⟨b,3,none⟩ = some (.int .i64 c.2.2.2.1)) ∧ (∀ d os,(grow (redrawn W d) os).cell? ⟨b,4,none⟩ = some (.string c.2.2.2.2)) :=
 ⟨cell_regrown (h.cell 0),cell_regrown (h.cell 1),cell_regrown (h.cell 2),cell_regrown (h.cell 3),cell_regrown (h.cell 4)⟩
end Go.Proofs.YtncogjpmboglhaaGreat.Pr
