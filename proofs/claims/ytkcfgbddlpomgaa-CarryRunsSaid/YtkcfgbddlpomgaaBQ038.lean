/-
  Advertisements learn. Conditions as told.
-/
import Derived.Test.YtkcfgbddlpomgaaBQ037
set_option maxRecDepth 100000
set_option maxHeartbeats 64000000
namespace Go.Proofs.Ytkcfgbddlpomgaa
namespace Av
open Go.RowKit Go.Sort Rw Ytkcfgbddlpomgaa.Nm Pr Bk
theorem tC {α β:Type} {E:Ek α} {F:Ek β} {W W':World} {B B':Nat} {v u:Value} {l:List β} {m:List α} (ho:Own F W B v l) (gr:W.grownBy W' v.ownBlock) (h:Own E W B' u m) (hne:(E.t == F.t)=false):Own E W' B' u m:=by
 rcases eH ho with⟨h1,_⟩|⟨g,c,cur,h1,_,h2,_⟩
 ·rw [h1] at gr;exact Bk.dx h ((Below.refl _ _).grown gr (Nat.le_refl _) (fun j hj=>by cases hj))
 ·rw [h1] at gr;exact (vG (b:=g) gr).own h h2 hne
end Av
namespace Bk
open Go.RowKit Go.Sort Rw Ytkcfgbddlpomgaa.Nm Pr
open Av
end Bk
namespace Bk
open Go.RowKit Go.Sort Rw Ytkcfgbddlpomgaa.Nm Pr
open Av
end Bk
namespace Av
open Go.RowKit Go.Sort Rw Ytkcfgbddlpomgaa.Nm Pr Bk
end Av
namespace Av
open Go.RowKit Go.Sort Rw Ytkcfgbddlpomgaa.Nm Pr Bk
end Av
namespace Sb
open Go.RowKit Go.Sort Rw Ytkcfgbddlpomgaa.Nm Pr Bk Av
end Sb
namespace Av
open Go.RowKit Go.Sort Rw Ytkcfgbddlpomgaa.Nm Pr Bk
abbrev z5:C5:=(⟨#[]⟩,0,0,0,⟨#[]⟩)
abbrev c0 (b:Br) (z:Int):Br:={ b with near:=b.near++[z] }
abbrev c1 (b:Br):Br:={ b with dU:=b.dU++[⟨(99,0),[],-1⟩] }
abbrev c2 (b:Br):Br:={ b with ent:=b.ent++[⟨(98,0),(0,0),[],-1,false⟩] }
abbrev c3 (b:Br):Br:={ b with own:=b.own++[⟨(-1,0),[]⟩,⟨(-1,0),[]⟩] }
abbrev c4 (b:Br):Br:={ b with seen:=b.seen++[(97,0),(97,0)] }
abbrev c5 (b:Br):Br:={ b with own:=[⟨(-5,0),[z5]⟩]++b.own }
end Av
namespace Fl
open Go.RowKit Go.Sort Rw Ytkcfgbddlpomgaa.Nm Pr Bk Av
end Fl
namespace Rg
open Go.RowKit Rw Av
end Rg
end Go.Proofs.Ytkcfgbddlpomgaa
