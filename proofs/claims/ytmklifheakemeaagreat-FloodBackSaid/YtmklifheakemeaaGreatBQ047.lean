/-
  FloodTells' region t. Conditions as told.
-/
import Derived.Test.YtmklifheakemeaaGreatBQ044
set_option maxRecDepth 100000
set_option maxHeartbeats 64000000
namespace Go.Proofs.YtmklifheakemeaaGreat.Fl
open Go.RowKit Go.Sort Rw YtmklifheakemeaaGreat.Nm Pr Bk Av Rl Sb
theorem Rb {P:Program} (ρ:Operand->Value) (o:Oper) (x y z u:Operand) (t s r q:TypeId) (f:FuncId) (ho:o.op=.call { callee:=.value (.func f),args:=#[x,y,z,u],argTypes:=#[t,s,r,q] }) {v1 v2 v3 v4:Value} (hx:ρ x=v1) (hy:ρ y=v2) (hz:ρ z=v3) (hu:ρ u=v4) (hf:ρ (.func f)=.func (.func f) #[] #[]) (w:World)
  (hc:(callFunc f #[v1,v2,v3,v4]).run P w=.ok (.enter f #[v1,v2,v3,v4]) w):(execOp ρ o).run P w=.ok (.enter f #[v1,v2,v3,v4]) w:=by
 simp [execOp,ho,resolve,invoke,hx,hy,hz,hu,hf,Deferred.ofValue,hc]
end Go.Proofs.YtmklifheakemeaaGreat.Fl
