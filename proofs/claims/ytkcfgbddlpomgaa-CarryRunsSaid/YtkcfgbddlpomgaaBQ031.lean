/-
  clear of the end of . Conditions as told.
-/
import Derived.Test.YtkcfgbddlpomgaaBQ028
import Derived.Laws.IdiomCopy
set_option maxRecDepth 100000
set_option maxHeartbeats 64000000
namespace Go.Proofs.Ytkcfgbddlpomgaa.Av
open Go.RowKit Go.Sort Rw Ytkcfgbddlpomgaa.Nm Pr Bk
theorem vk {α:Type} {key:α->dI} {l:List α} {x:dI} (h:d9 (l.map key) x=-1):∀ (j:Nat) (y:α),l[j]?=some y->key y≠x:=by
 intro j y hj hy;have h1:=pV (l.map key) x;rw [h] at h1;have:x∈l.map key:=List.mem_map.2 ⟨y,List.mem_of_getElem? hj,hy⟩;simp [this] at h1
theorem nV:∀ {l:List dI} {x:dI} {k:Nat},d9 l x=k->l[k]?=some x/\∀ (j:Nat) (y:dI),j<k->l[j]?=some y->y≠x
 | [],x,k,h=>by simp [d9] at h <;> omega
 | a::l,x,k,h=>by
  unfold d9 at h;by_cases hax:a=x
  ·rw [if_pos hax] at h;obtain rfl:k=0:=by omega
   exact⟨by simpa using hax,fun j y hj=>by omega⟩
  ·rw [if_neg hax] at h;by_cases h2:d9 l x=-1
   ·rw [if_pos h2] at h; omega
   ·rw [if_neg h2] at h;cases k with
    | zero=>have:=jR l x; omega
    | succ k =>
     obtain⟨h3,h4⟩:=nV (l:=l) (x:=x) (k:=k) (by omega);refine⟨by simpa using h3,fun j y hj hy=>?_⟩;cases j with
     | zero =>
      obtain rfl:a=y:=by simpa using hy
      exact hax
     | succ j=>exact h4 j y (by omega) (by simpa using hy)
end Go.Proofs.Ytkcfgbddlpomgaa.Av
