/-
  What the laws on graphs share: contracts whose answers are known ahead, in any world that has grown. Conditions: as each theorem states them.
-/
import Derived.Test.YtbnfndcbhnjnaaaDoorGsRuns
import Derived.Test.YtbnfndcbhnjnaaaDoorGrLinks
import Derived.Test.YtbnfndcbhnjnaaaDoorBl
import Derived.Test.YtbnfndcbhnjnaaaDoorGrRight
namespace Go.Proofs.YtbnfndcbhnjnaaaDoor.Gr
open Go.RowKit Go.Sort Go.Proofs.YtbnfndcbhnjnaaaDoor Go.Proofs.YtbnfndcbhnjnaaaDoor.Rw Go.Proofs.YtbnfndcbhnjnaaaDoor.Kp Go.Proofs.YtbnfndcbhnjnaaaDoor.In Go.Proofs.YtbnfndcbhnjnaaaDoor.Wi

/-- A graph that numbers made. -/
structure SmallG (n : Int) (l : List Lk) : Prop where
  right : RightG n l
  seven : n ≤ 7
  few : l.length ≤ 14
theorem graph_ok (bn : Int) (uv mv : Value) (us ms : List Int) (w : World) (hb : I64 bn) (hu : InInts w uv us) (hm : InInts w mv ms) (lu : us.length ≤ maxLen) (lm : ms.length ≤ maxLen) :
    Calls Tryd.prog 17 #[.agg #[.int .i64 bn, uv, mv]] w fun e w' => (∃ n v l, e = .returned (gv n v) ∧ OwnK w' w.heap.size v l ∧ SmallG n l) ∧ Below w.heap.size w w' :=
  (graph_any bn uv mv us ms w hb hu hm lu lm).mono fun _ _ ⟨v, h1, h2, h3⟩ => ⟨⟨_, v, _, h1, h2, ⟨links_right bn us ms, (brokers_bd bn).2, links_len bn us ms⟩⟩, h3⟩
theorem far_ex (n : Int) (l : List Lk) (a b : Int) : ∃ r, FarIs n l a b r := by
  by_cases h : (0 ≤ a ∧ a < n) ∧ ∃ k, Wk l k a b
  · obtain ⟨h1, k, hk⟩ := h
    obtain ⟨d, hd, _⟩ := dist_of hk
    exact ⟨d, Or.inl ⟨h1, d, rfl, hd⟩⟩
  · exact ⟨-1, Or.inr ⟨rfl, fun h1 k hk => h ⟨h1, k, hk⟩⟩⟩
theorem far_val {n : Int} {lv : Value} {l : List Lk} {a b r : Int} (hr : FarIs n l a b r) (hg : RightG n l) (hb : I64 b) (w : World) (hl : RowK w lv l) :
    Calls Tryd.prog 15 #[gv n lv, .int .i64 a, .int .i64 b] w fun e w' => e = .returned (.int .i64 r) ∧ Below w.heap.size w w' :=
  (far_ok n lv l a b w hl ⟨hg.ok, hg.simp⟩ (by have := hg.few; omega) (by have := hg.hi; omega) hb).mono fun _ _ ⟨⟨r', h1, h2⟩, h3⟩ => ⟨by rw [h1, h2.uniq hr], h3⟩
theorem far_re {n : Int} {lv : Value} {l : List Lk} {a b r : Int} (hr : FarIs n l a b r) (hg : RightG n l) (hb : I64 b) (w : World) (hl : RowK w lv l) (d : Nat) (os : Array Obj) :
    Calls Tryd.prog 15 #[gv n lv, .int .i64 a, .int .i64 b] (grow (redrawn w d) os) fun e w' => e = .returned (.int .i64 r) ∧ ∃ p : Regrown, w' = grow (redrawn w p.d) p.os :=
  Calls.regrown_of (far_val hr hg hb _ (hl.on (below_regrown w d os)))
theorem linked_re {n : Int} {lv : Value} {l : List Lk} (hg : Lok n l) (a b : Int) (r : Bool) (hr : adjB l a b = r) (w : World) (hl : RowK w lv l) (d : Nat) (os : Array Obj) :
    Calls Tryd.prog 19 #[gv n lv, .int .i64 a, .int .i64 b] (grow (redrawn w d) os) fun e w' => e = .returned (.bool r) ∧ ∃ p : Regrown, w' = grow (redrawn w p.d) p.os := by
  subst hr
  exact Calls.regrown_of (linked_any n lv l a b _ (hl.on (below_regrown w d os)) hg)
theorem runs_re (w : World) (hg : GE w) (d : Nat) (os : Array Obj) :
    Calls Tryd.prog 3 #[] (grow (redrawn w d) os) fun e w' => e = .returned (.bool true) ∧ ∃ p : Regrown, w' = grow (redrawn w p.d) p.os :=
  Calls.regrown_of (runs_any _ (hg.on (below_regrown w d os)).eg)
theorem within_re (n lo hi : Int) (w : World) (h : lo ≤ hi) (h1 : -1000000 ≤ lo) (h2 : hi ≤ 1000000) (hn : I64 n) (d : Nat) (os : Array Obj) :
    Calls Tryd.prog 16 #[.int .i64 n, .int .i64 lo, .int .i64 hi] (grow (redrawn w d) os) fun e w' => e = .returned (.int .i64 (within n lo hi)) ∧ ∃ p : Regrown, w' = grow (redrawn w p.d) p.os :=
  (within_any n lo hi _ h h1 h2 hn.1 hn.2).mono fun _ _ ⟨he, hw⟩ => ⟨he, ⟨d, os⟩, hw.symm⟩
theorem check_re {n : Int} {lv : Value} {l : List Lk} (hr : RightG n l) (w : World) (hl : RowK w lv l) (d : Nat) (os : Array Obj) :
    Calls Tryd.prog 9 #[gv n lv] (grow (redrawn w d) os) fun e w' => e = .returned .nilIface ∧ ∃ p : Regrown, w' = grow (redrawn w p.d) p.os :=
  Calls.regrown_of (check_nil (hl.on (below_regrown w d os)) hr)
theorem not_range {n : Int} {l : List Lk} (hok : Lok n l) {a b : Int} (hb : ¬ (0 ≤ b ∧ b < n)) : FarIs n l a b (-1) := Or.inr ⟨rfl, fun ha _k hk => hb (hk.range hok ha)⟩
end Go.Proofs.YtbnfndcbhnjnaaaDoor.Gr
