/-
  clear of the end of . Conditions as told.
-/
import Derived.Test.YtkcfgbddlpomgaaGreatDQ028
import Derived.Laws.IdiomCopy
set_option maxRecDepth 100000
set_option maxHeartbeats 64000000
namespace Go.Proofs.YtkcfgbddlpomgaaGreat.Av
open Go.RowKit Go.Sort Rw YtkcfgbddlpomgaaGreat.Nm Pr Bk
theorem Dl {α:Type} {key:α->eO} {l:List α} {x:eO} (h:fG (l.map key) x=-1):∀ (j:Nat) (y:α),l[j]?=some y->key y≠x:=by
 intro j y hj hy;have h1:=Gc (l.map key) x;rw [h] at h1;have:x∈l.map key:=List.mem_map.2 ⟨y,List.mem_of_getElem? hj,hy⟩;simp [this] at h1
theorem wN:∀ {l:List eO} {x:eO} {k:Nat},fG l x=k->l[k]?=some x/\∀ (j:Nat) (y:eO),j<k->l[j]?=some y->y≠x
 | [],x,k,h=>by simp [fG] at h <;> omega
 | a::l,x,k,h=>by
  unfold fG at h;by_cases hax:a=x
  ·rw [if_pos hax] at h;obtain rfl:k=0:=by omega
   exact⟨by simpa using hax,fun j y hj=>by omega⟩
  ·rw [if_neg hax] at h;by_cases h2:fG l x=-1
   ·rw [if_pos h2] at h; omega
   ·rw [if_neg h2] at h;cases k with
    | zero=>have:=pq l x; omega
    | succ k =>
     obtain⟨h3,h4⟩:=wN (l:=l) (x:=x) (k:=k) (by omega);refine⟨by simpa using h3,fun j y hj hy=>?_⟩;cases j with
     | zero =>
      obtain rfl:a=y:=by simpa using hy
      exact hax
     | succ j=>exact h4 j y (by omega) (by simpa using hy)
abbrev agd (x:iA):eO:=(x.1,x.2.1)
abbrev xu (c d:Int) (x:iA):Bool:=decide (agd x≠(c,d))
end Go.Proofs.YtkcfgbddlpomgaaGreat.Av
