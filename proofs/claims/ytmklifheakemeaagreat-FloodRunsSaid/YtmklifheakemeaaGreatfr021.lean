/-
  slices.BinarySearch of numbers; comes of package adverts. Conditions as told.
-/
import Derived.Test.YtmklifheakemeaaGreatfr020
import Derived.Test.YtmklifheakemeaaGreatfr006
import Derived.Deep.LoopGhost
import Derived.Test.YtmklifheakemeaaGreatfr017
import Derived.Test.YtmklifheakemeaaGreatfr008
import Derived.Test.YtmklifheakemeaaGreatfr012
import Derived.Test.YtmklifheakemeaaGreatfr007
import Derived.Test.YtmklifheakemeaaGreatfr001
set_option maxRecDepth 100000
set_option maxHeartbeats 64000000
namespace Go.Proofs.YtmklifheakemeaaGreat.Av
open Go.RowKit Go.Sort Rw YtmklifheakemeaaGreat.Nm Pr Bk
def comesB (near : List Int) (f : Int) : Bool := decide (f ∈ near) || f == -1
end Go.Proofs.YtmklifheakemeaaGreat.Av
namespace Go.Proofs.YtmklifheakemeaaGreat.Avp
open Go.RowKit Go.Sort Rw YtmklifheakemeaaGreat.Nm At Pr Wr Va
end Go.Proofs.YtmklifheakemeaaGreat.Avp
namespace Go.Proofs.YtmklifheakemeaaGreat.Bk
open Go.RowKit Rw YtmklifheakemeaaGreat.Nm Pr
end Go.Proofs.YtmklifheakemeaaGreat.Bk
namespace Go.Proofs.YtmklifheakemeaaGreat.Rg
open Go.RowKit
structure SeenF (i N : Nat) (dst : Nat → Option Nat) (last : Nat → Nat) (V : Nat → Value → World → Prop) (base : Act) (o : Oper) (a : Act) (w : World) : Prop where
 kp : ∀ j u,(∀ k,k < N → dst k ≠ some j) → base.tmps[j]? = some u → a.eval (.tmp j) = u
 at_ : ∀ e ∈ o.after,Region.binds .any e = true → (last e.on = i ∨ N ≤ last e.on) → ∀ d,dst e.on = some d → V e.on (a.eval (.tmp d)) w
 st : ∀ e ∈ o.after,Region.binds .any e = true → (last e.on = i ∨ N ≤ last e.on) → ∃ v,V e.on v w
theorem put_other (a : Act) (d : Option Nat) (v : Value) (j : Nat) (hj : d ≠ some j) : (a.put d v).tmps[j]? = a.tmps[j]? := by
 cases d with
 | none => rfl
 | some d => exact get_put _ _ _ _ (fun e => hj (by rw [e]))
theorem put_size (a : Act) (d : Option Nat) (v : Value) : (a.put d v).tmps.size = a.tmps.size := by
 cases d with
 | none => rfl
 | some d => exact size_put _ _ _
theorem put_defers (a : Act) (d : Option Nat) (v : Value) : (a.put d v).defers = a.defers := by
 cases d <;> rfl
structure PhD (l : List Oper) (N : Nat) (dst : Nat → Option Nat) (last : Nat → Nat) (V : Nat → Value → World → Prop) (F : (Nat → Prop) → World → Prop) (base : Act) (L : Array Bool) (a : Act) (x : World) : Prop where
 cl : ∀ i o,done L i → l[i]? = some o → ∀ e ∈ o.after,Region.binds .any e = true → done L e.on
 df : a.defers = base.defers
 sz : a.tmps.size = base.tmps.size
 kp : ∀ j,(∀ i,i < N → dst i ≠ some j) → a.tmps[j]? = base.tmps[j]?
 fr : F (done L) x
 no : ∀ i,N ≤ i → ¬ done L i
 val : ∃ vs : Nat → Value,∀ i,i < N → done L i → (∀ d,dst i = some d → a.tmps[d]? = some (vs i)) ∧ (¬ done L (last i) → V i (vs i) x)
theorem region_done {P : Program} {Q : Exit → Act → World → Prop} {id : Nat} {base : Act} {w : World} {l : List Oper} (N : Nat) (dst : Nat → Option Nat) (last : Nat → Nat) (V : Nat → Value → World → Prop) (F : (Nat → Prop) → World → Prop)
  (hm : P.follows .mixedOrders = true) (hf : fore l.toArray = true) (hN : l.length = N) (hinj : ∀ i j d,i < N → j < N → dst i = some d → dst j = some d → i = j) (hs : ∀ i d,i < N → dst i = some d → d < base.tmps.size) (h0 : F (fun _ => False) w.drew)
  (hop : ∀ i o,i < N → l[i]? = some o → ∀ a w' (D : Nat → Prop),¬ D i → (∀ j oj,D j → l[j]? = some oj → ∀ e ∈ oj.after,Region.binds .any e = true → D e.on) → (∀ e ∈ o.after,Region.binds .any e = true → D e.on) → F D w' → SeenF i N dst last V base o a w' → ∀ K : Act → World → Prop,(∀ v w'',V i v w'' → F (fun j => j = i ∨ D j) w'' → (∀ j u,j < N → D j → ¬ D (last j) → last j ≠ i → j ≠ i → V j u w' → V j u w'') → K (a.put (dst i) v) w'') → wpOp P l.toArray Q i K a w')
  (hend : ∀ a w',a.defers = base.defers → a.tmps.size = base.tmps.size → (∀ j,(∀ i,i < N → dst i ≠ some j) → a.tmps[j]? = base.tmps[j]?) → (∃ vs : Nat → Value,∀ i,i < N → (∀ d,dst i = some d → a.tmps[d]? = some (vs i)) ∧ (N ≤ last i → V i (vs i) w')) → (∃ D : Nat → Prop,(∀ i,i < N → D i) ∧ F D w') → Q .normal a w') : (Code.region id l.toArray true).wp P Q base w := by
 refine region_inv (fun L a x => PhD l N dst last V F base L a x) hm hf ?_ ?_ ?_
 ·exact ⟨fun i o h => absurd h (none_done _ _),rfl,rfl,fun _ _ => rfl,by rw [show done (Array.replicate l.length false) = fun _ => False from funext fun i => propext ⟨fun h => none_done _ _ h,False.elim⟩]; exact h0,fun i _ => none_done _ _,fun _ => .bool true,fun i _ h => absurd h (none_done _ _)⟩
 ·intro L a x i o hsz I ho hnd hdep
  have hi : i < l.length := (List.getElem?_eq_some_iff.1 ho).1
  have hiL : i < L.size := by omega
  have hiM : i < N := by omega
  obtain ⟨vs,q1⟩ := I.val
  have hon : ∀ e ∈ o.after,Region.binds .any e = true → e.on < N := fun e he hb => by
   have h7 := List.all_eq_true.1 hf i (List.mem_range.2 (by simpa using hi))
   have ho' : (l.toArray)[i]? = some o := by simpa using ho
   rw [ho'] at h7
   have h8 := Array.all_eq_true'.1 h7 e he
   rw [hb] at h8
   have : e.on < i := by simpa using h8
   omega
  have lv : ∀ e ∈ o.after,Region.binds .any e = true → (last e.on = i ∨ N ≤ last e.on) → V e.on (vs e.on) x := fun e he hbd hl => by
   refine (q1 e.on (hon e he hbd) (hdep e he hbd)).2 ?_
   rcases hl with hl | hl
   ·rw [hl]; exact hnd
   ·exact I.no _ hl
  have seen : SeenF i N dst last V base o a x := ⟨fun j u hj hu => eval_some (by rw [I.kp j hj]; exact hu),fun e he hbd hl d hd => by
   rw [eval_some ((q1 e.on (hon e he hbd) (hdep e he hbd)).1 d hd)]
   exact lv e he hbd hl,fun e he hbd hl => ⟨_,lv e he hbd hl⟩⟩
  refine hop i o hiM ho a x (done L) hnd I.cl hdep I.fr seen _ fun v w'' hvw hfw hpr => ?_
  refine ⟨fun k q hk hq e he hb => ?_,by rw [put_defers]; exact I.df,by rw [put_size]; exact I.sz,fun j hj => ?_,by rw [show done (L.setIfInBounds i true) = fun j => j = i ∨ done L j from funext fun j => propext (done_set hiL j)]; exact hfw,fun k hk hd => ?_,fun k => if k = i then v else vs k,fun k hkM hk => ?_⟩
  ·rw [done_set hiL] at hk ⊢
   rcases hk with rfl | hk
   ·rw [hq] at ho
    cases ho
    exact Or.inr (hdep e he hb)
   ·exact Or.inr (I.cl k q hk hq e he hb)
  ·rw [put_other _ _ _ _ (hj i hiM)]
   exact I.kp j hj
  ·rcases (done_set hiL k).1 hd with h9 | h9
   ·omega
   ·exact I.no k hk h9
  ·by_cases e : k = i
   ·subst e
    simp only [if_true]
    refine ⟨fun d hd => ?_,fun _ => hvw⟩
    have h9 : d < a.tmps.size := by rw [I.sz]; exact hs k d hkM hd
    rw [hd]
    simp [Act.put,h9]
   ·simp only [if_neg e]
    rcases (done_set hiL k).1 hk with h9 | h9
    ·exact absurd h9 e
    ·obtain ⟨p1,p2⟩ := q1 k hkM h9
     refine ⟨fun d hd => ?_,fun hn => ?_⟩
     ·rw [put_other _ _ _ _ (fun h => e (hinj k i d hkM hiM hd h))]
      exact p1 d hd
     ·have n1 : last k ≠ i := fun e3 => hn ((done_set hiL _).2 (Or.inl e3))
      have n2 : ¬ done L (last k) := fun e3 => hn ((done_set hiL _).2 (Or.inr e3))
      exact hpr k _ hkM h9 n2 n1 e (p2 n2)
 ·intro L a x I hd
  obtain ⟨vs,q1⟩ := I.val
  exact hend a x I.df I.sz I.kp ⟨vs,fun k hk => ⟨(q1 k hk (hd k (by omega))).1,fun hl => (q1 k hk (hd k (by omega))).2 (I.no _ hl)⟩⟩ ⟨done L,fun i hi => hd i (by omega),I.fr⟩
end Go.Proofs.YtmklifheakemeaaGreat.Rg
namespace Go.Proofs.YtmklifheakemeaaGreat.Bk
open Go.RowKit Rw YtmklifheakemeaaGreat.Nm Pr
end Go.Proofs.YtmklifheakemeaaGreat.Bk
