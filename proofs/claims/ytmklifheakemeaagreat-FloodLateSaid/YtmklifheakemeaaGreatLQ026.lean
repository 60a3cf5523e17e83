/-
  Entries of broadside. Conditions as told.
-/
import Derived.Test.YtmklifheakemeaaGreatLQ010
set_option maxRecDepth 100000
set_option maxHeartbeats 64000000
namespace Go.Proofs.YtmklifheakemeaaGreat.Bk
open Go.RowKit Go.Sort Rw YtmklifheakemeaaGreat.Nm Pr
theorem GH {α β:Type} {R:α->β->Prop}:∀ {l m} (_:eZ R l m) (k:Nat) (a:α),l[k]?=some a->∃ b,m[k]?=some b/\R a b
 | _,_,.nil,k,b,h=>by simp at h
 | _,_,.cons x t,0,b,h=>by
  simp at h;subst h;exact⟨_,rfl,x⟩
 | _,_,.cons x t,k+1,b,h=>by
  obtain⟨a,h1,h2⟩:=GH t k b (by simpa using h);exact⟨a,by simpa using h1,h2⟩
end Go.Proofs.YtmklifheakemeaaGreat.Bk
