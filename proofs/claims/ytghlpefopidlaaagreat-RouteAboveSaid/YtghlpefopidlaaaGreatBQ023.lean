/-
  Entries of broadside. Conditions as told.
-/
import Derived.Test.YtghlpefopidlaaaGreatBQ012
set_option maxRecDepth 100000
set_option maxHeartbeats 64000000
namespace Go.Proofs.YtghlpefopidlaaaGreat
namespace Bk
open Go.RowKit Go.Sort Rw YtghlpefopidlaaaGreat.Nm Pr
end Bk
namespace Bk
open Go.RowKit Rw YtghlpefopidlaaaGreat.Nm Pr Rl
def Rz (c:C5):Cn:=(c.1,if c.2.1=1 then .rg c.2.2.1 c.2.2.2.1 else if c.2.1=2 then .tx c.2.2.2.2 else .pr c.2.2.2.2)
theorem Ui (c:Cn):Rz (r5 c)=c:=by
 obtain⟨n,k⟩:=c;cases k <;> simp [Rz,r5,kN,mE,mF,kT]
theorem rP (a:List Cn):(a.map r5).map Rz=a:=by
 rw [List.map_map];have h:Rz∘r5=id:=funext Ui;rw [h,List.map_id]
def dN (p:List C5):Prop:=∃ a:List Cn,NF a/\p=a.map r5
def fG (p q:List C5):Bool:=mG (p.map Rz) (q.map Rz)
def Mj (t:Id) (p:List C5) (e:En):Bool:=decide (e.tree=t) && (e.up && fG e.p p)
def eP (m:List En) (t:Id) (p:List C5):Bool:=m.any (Mj t p)
end Bk
namespace Bk
open Go.RowKit Go.Sort Rw YtghlpefopidlaaaGreat.Nm Pr
def iW (a b:Id×Id):Bool:=dP a.1 b.1 || (ZM a.1 b.1 && dP a.2 b.2)
def dY (l:List (Id×Id)) (x:Id×Id):Nat:=(l.takeWhile fun a=>iW a x).length
end Bk
end Go.Proofs.YtghlpefopidlaaaGreat
