/-
  Facts kept from the walk, and two lemmas on regions that are quiet. Conditions: none.
-/
import Derived.Lib.Hide
import Derived.Lib.QuietBelow
namespace Go.Proofs.YtghlpefopidlaaaGreat
open Go.RowKit Go.Sort
abbrev OA:=Option Addr
def Hq (p:Prop):Prop:=p
theorem Hq.o {p:Prop} (h:Hq p):p:=h
theorem hq {p:Prop} (h:p):Hq p:=h
theorem ko {P:Program} {id:Nat} {Q:Exit->Act->World->Prop} {a:Act} {w:World} {l:List Oper} (h:wpQuiet P l.toArray (fun w'=>∃ p:Regrown,w'=grow (redrawn w p.d) p.os) (fun j=>∀ w',(∃ p:Regrown,w'=grow (redrawn w p.d) p.os)->Q .normal j w') l a) (q:P.follows .mixedOrders=true:=by kernel_rfl) (hB:Region.lexB .any l.toArray=true:=by kernel_rfl):(Code.region id l.toArray true).wp P Q a w:=wp_region_quiet_below q hB h
theorem kr {P:Program} {ops:Array Oper} {C:World->Prop} {R:Act->World->Prop} {a:Act} {w:World} (h:∀ (d:Nat) (s:Array Obj),R a (grow (redrawn w d) s)):wpQuiet P ops C (fun j=>∀ w',(∃ p:Regrown,w'=grow (redrawn w p.d) p.os)->R j w') [] a:=fun _ ⟨p,e⟩=>e ▸ h p.d p.os
end Go.Proofs.YtghlpefopidlaaaGreat
