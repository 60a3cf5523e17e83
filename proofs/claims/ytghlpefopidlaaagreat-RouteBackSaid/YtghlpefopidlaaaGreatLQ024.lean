/-
  Entries of broadside. Conditions as told.
-/
import Derived.Test.YtghlpefopidlaaaGreatLQ012
set_option maxRecDepth 100000
set_option maxHeartbeats 64000000
namespace Go.Proofs.YtghlpefopidlaaaGreat.Bk
open Go.RowKit Go.Sort Rw YtghlpefopidlaaaGreat.Nm Pr
theorem Qy {α β:Type} {R:α->β->Prop}:∀ {l m} (_:eY R l m) (k:Nat) (a:α),l[k]?=some a->∃ b,m[k]?=some b/\R a b
 | _,_,.nil,k,b,h=>by simp at h
 | _,_,.cons x t,0,b,h=>by
  simp at h;subst h;exact⟨_,rfl,x⟩
 | _,_,.cons x t,k+1,b,h=>by
  obtain⟨a,h1,h2⟩:=Qy t k b (by simpa using h);exact⟨a,by simpa using h1,h2⟩
end Go.Proofs.YtghlpefopidlaaaGreat.Bk
