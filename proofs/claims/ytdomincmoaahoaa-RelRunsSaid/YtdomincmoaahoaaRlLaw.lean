/-
  The contracts wanted of package rel.
-/
import Derived.Test.YtdomincmoaahoaaRlAttr
import Derived.Test.YtdomincmoaahoaaRlNF
import Derived.Test.YtdomincmoaahoaaAtRef
namespace Go.Proofs.Ytdomincmoaahoaa.Rl
open Go.RowKit Go.Proofs.Ytdomincmoaahoaa Go.Proofs.Ytdomincmoaahoaa.Pu Go.Proofs.Ytdomincmoaahoaa.Rw Go.Proofs.Ytdomincmoaahoaa.Pr

def MatchOk (G : World → Prop) : Prop := ∀ (pv lv : Value) (p : List Cn) (l : List An) (w : World), G w → RowC w pv (p.map r5) → RowL w lv l → NF p → NL l → Calls Try.prog 14 #[pv, lv] w fun e w' => e = .returned (.bool (matchL p l)) ∧ Below w.heap.size w w'
def MeetsOk (G : World → Prop) : Prop := ∀ (av bv : Value) (a b : List Cn) (w : World), G w → RowC w av (a.map r5) → RowC w bv (b.map r5) → NF a → NF b → Calls Try.prog 10 #[av, bv] w fun e w' => e = .returned (.bool (meetsB a b)) ∧ Below w.heap.size w w'
def CoversOk (G : World → Prop) : Prop := ∀ (av bv : Value) (a b : List Cn) (w : World), G w → RowC w av (a.map r5) → RowC w bv (b.map r5) → NF a → NF b → Calls Try.prog 11 #[av, bv] w fun e w' => e = .returned (.bool (coversL a b)) ∧ Below w.heap.size w w'
def SampleQ (a : List Cn) (w : World) (e : Ending) (w' : World) : Prop := ∃ lv s, e = .returned lv ∧ RowL w' lv s ∧ NL s ∧ At.rightT s = true ∧ matchL a s = true ∧ s.length = a.length ∧ Below w.heap.size w w'
def SampleOk (G : World → Prop) : Prop := ∀ (av : Value) (a : List Cn) (w : World), G w → RowC w av (a.map r5) → NF a → Calls Try.prog 18 #[av] w (SampleQ a w)
def JointQ (a b : List Cn) (w : World) (e : Ending) (w' : World) : Prop := ∃ lv j, e = .returned (.tuple #[lv, .bool (meetsB a b)]) ∧ RowL w' lv j ∧ (meetsB a b = false → j = []) ∧ (meetsB a b = true → NL j ∧ At.rightT j = true ∧ matchL a j = true ∧ matchL b j = true) ∧ Below w.heap.size w w'
def JointOk (G : World → Prop) : Prop := ∀ (av bv : Value) (a b : List Cn) (w : World), G w → RowC w av (a.map r5) → RowC w bv (b.map r5) → NF a → NF b → Calls Try.prog 19 #[av, bv] w (JointQ a b w)
structure ROks (G : World → Prop) : Prop where
  bel : ∀ w w', G w → Below w.heap.size w w' → G w'
  match_ : MatchOk G
  meets : MeetsOk G
  covers : CoversOk G
  sample : SampleOk G
  joint : JointOk G
end Go.Proofs.Ytdomincmoaahoaa.Rl
