/-
  What a round of Adve. Conditions as told.
-/
import Derived.Test.YtghlpefopidlaaaGreatCQ030
import Derived.Test.YtghlpefopidlaaaGreatCQ031
import Derived.Test.YtghlpefopidlaaaGreatCQ035
set_option maxRecDepth 100000
set_option maxHeartbeats 64000000
namespace Go.Proofs.YtghlpefopidlaaaGreat
namespace Av
open Go.RowKit Go.Sort Rw YtghlpefopidlaaaGreat.Nm Pr Bk
theorem Cr {α:Type} (l:List α) (k:Nat) (x:α):(eX l k x).length=l.length+1:=by
 unfold eX;simp only [List.length_append,List.length_cons,List.length_nil,List.length_take,List.length_drop];omega
end Av
namespace Bk
open Go.RowKit Go.Sort Rw YtghlpefopidlaaaGreat.Nm Pr
end Bk
namespace Av
open Go.RowKit Go.Sort Rw YtghlpefopidlaaaGreat.Nm Pr Bk
theorem zX {α β:Type} {E:Ek α} {F:Ek β} {W W':World} {B B':Nat} {v u:Value} {l:List β} {m:List α} (ho:Own F W B v l) (gr:W.grownBy W' v.ownBlock) (h:Own E W B' u m) (hne:(E.t == F.t)=false):Own E W' B' u m:=by
 rcases dY ho with⟨h1,_⟩|⟨g,c,cur,h1,_,h2,_⟩
 ·rw [h1] at gr;exact Bk.dw h ((Below.refl _ _).grown gr (Nat.le_refl _) (fun j hj=>by cases hj))
 ·rw [h1] at gr;exact (o9 (b:=g) gr).own h h2 hne
theorem gV {β:Type} {F:Ek β} {W W':World} {B k:Nat} {v:Value} {l:List β} {cs:Array Value} {t:TypeId} (ho:Own F W B v l) (gr:W.grownBy W' v.ownBlock) (h:cZ W k cs t) (hne:(t == F.t)=false):cZ W' k cs t:=by
 rcases dY ho with⟨h1,_⟩|⟨g,c,cur,h1,_,h2,_⟩
 ·rw [h1] at gr;exact h.on ((Below.refl _ _).grown gr (Nat.le_refl _) (fun j hj=>by cases hj))
 ·rw [h1] at gr;exact (o9 (b:=g) gr).box h (jU h h2 hne)
end Av
end Go.Proofs.YtghlpefopidlaaaGreat
