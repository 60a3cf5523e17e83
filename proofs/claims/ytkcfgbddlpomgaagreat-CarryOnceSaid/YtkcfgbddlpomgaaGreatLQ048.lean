/-
  CarryTrees: a tree's. Conditions as told.
-/
import Derived.Test.YtkcfgbddlpomgaaGreatLQ043
import Derived.Test.YtkcfgbddlpomgaaGreatLQ047
set_option maxRecDepth 100000
set_option maxHeartbeats 64000000
namespace Go.Proofs.YtkcfgbddlpomgaaGreat.Ca
open Go.RowKit Go.Sort Rw YtkcfgbddlpomgaaGreat.Nm Pr Bk Av Rl Sb Fl
theorem UL {o:Option Ad} {W:World} {e:Ending} {w':World} (h:Yd W o W e w'):(∃ (r:jC) (ok:Bool),e=.returned (.tuple #[lU r,.bool ok])/\(ok=false->o=none)/\(ok=true->∃ a,o=some a/\r.2.2.2=a.par))/\Below W.heap.size W w':=by
 obtain⟨h1,h2⟩:=h;refine⟨?_,h2⟩;cases o with
 | none=>exact⟨_,false,h1,fun _=>rfl,fun h=>by cases h⟩
 | some a =>
  obtain⟨r,he,ha⟩:=h1;exact⟨r,true,he,(fun h=>by cases h),fun _=>⟨a,rfl,ha.2.1⟩⟩
end Go.Proofs.YtkcfgbddlpomgaaGreat.Ca
