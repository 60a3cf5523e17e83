/-
  Rows of one's own of. Conditions as told.
-/
import Derived.Test.YtkcfgbddlpomgaaGreatDQ037
set_option maxRecDepth 100000
set_option maxHeartbeats 64000000
namespace Go.Proofs.YtkcfgbddlpomgaaGreat.Fl
open Go.RowKit Go.Sort Rw YtkcfgbddlpomgaaGreat.Nm Pr Bk Av
theorem Un (a:Option Addr) (n c:Nat) (w:World):(binOp .eql 39 (.slice a n c) (.slice none 0 0)).run Tryz.prog w=.ok (.bool a.isNone) w:=by
 simp [go_sem,binOp,run_equal_slice_nil (P:=Tryz.prog) w 39 97 a n c Tryz.underlying39]
theorem Uo (w:World) (b:Nat) (a0 a1 a2 a3 a4 a5 a6:Value):But b w (QO w b a0 a1 a2 a3 a4 a5 a6) :=
 (((dQ _ b _ _).trans (dQ _ b _ _)).trans ((dQ _ b _ _).trans (dQ _ b _ _))).trans (((dQ _ b _ _).trans (dQ _ b _ _)).trans (dQ _ b _ _))
theorem IL {w W:World} {B b:Nat} (h:Below B w W) (hb:B<=b) (a0 a1 a2 a3 a4 a5 a6:Value):Below B w (QO W b a0 a1 a2 a3 a4 a5 a6) :=
 ((((((h.setCell (p:=⟨b,0,none⟩) hb a0).setCell (p:=⟨b,1,none⟩) hb a1).setCell (p:=⟨b,2,none⟩) hb a2).setCell (p:=⟨b,3,none⟩) hb a3).setCell (p:=⟨b,4,none⟩) hb a4).setCell (p:=⟨b,5,none⟩) hb a5).setCell (p:=⟨b,6,none⟩) hb a6
end Go.Proofs.YtkcfgbddlpomgaaGreat.Fl
