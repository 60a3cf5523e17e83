/-
  Rows of one's own of. Conditions as told.
-/
import Derived.Test.YtkcfgbddlpomgaaGreatCQ038
set_option maxRecDepth 100000
set_option maxHeartbeats 64000000
namespace Go.Proofs.YtkcfgbddlpomgaaGreat.Fl
open Go.RowKit Go.Sort Rw YtkcfgbddlpomgaaGreat.Nm Pr Bk Av
theorem SI (a:Option Addr) (n c:Nat) (w:World):(binOp .eql 39 (.slice a n c) (.slice none 0 0)).run Tryz.prog w=.ok (.bool a.isNone) w:=by
 simp [go_sem,binOp,run_equal_slice_nil (P:=Tryz.prog) w 39 97 a n c Tryz.underlying39]
theorem Wp {W:World} {b:Nat} {z0 z1 z2 z3 z4 z5 z6:Value} (h:dG W b #[z0,z1,z2,z3,z4,z5,z6] 43) (a0 a1 a2 a3 a4:Int) (o5:Option Addr) (n5 c5:Nat) (o6:Option Addr) (n6 c6:Nat) :
  (Instr.storeAt 43 (.pointer (some ⟨b,0,none⟩)) (.agg #[.int .i64 a0,.int .i64 a1,.int .i64 a2,.int .i64 a3,.int .i64 a4,.slice o5 n5 c5,.slice o6 n6 c6])).run Tryz.prog W=.ok () (FN W b (.int .i64 a0) (.int .i64 a1) (.int .i64 a2) (.int .i64 a3) (.int .i64 a4) (.slice o5 n5 c5) (.slice o6 n6 c6)):=by
 obtain⟨x0,x1,x2,x3,x4,x5,x6⟩:=h.mP;obtain⟨f0,f1,f2,f3,f4,f5,f6⟩:=h.Zn;simp [go_sem,x0,x1,x2,x3,x4,x5,x6,f0,f1,f2,f3,f4,f5,f6]
theorem Hl (w:World) (b:Nat) (a0 a1 a2 a3 a4 a5 a6:Value):But b w (FN w b a0 a1 a2 a3 a4 a5 a6) :=
 (((dQ _ b _ _).trans (dQ _ b _ _)).trans ((dQ _ b _ _).trans (dQ _ b _ _))).trans (((dQ _ b _ _).trans (dQ _ b _ _)).trans (dQ _ b _ _))
theorem xC {w W:World} {B b:Nat} (h:Below B w W) (hb:B<=b) (a0 a1 a2 a3 a4 a5 a6:Value):Below B w (FN W b a0 a1 a2 a3 a4 a5 a6) :=
 ((((((h.setCell (p:=⟨b,0,none⟩) hb a0).setCell (p:=⟨b,1,none⟩) hb a1).setCell (p:=⟨b,2,none⟩) hb a2).setCell (p:=⟨b,3,none⟩) hb a3).setCell (p:=⟨b,4,none⟩) hb a4).setCell (p:=⟨b,5,none⟩) hb a5).setCell (p:=⟨b,6,none⟩) hb a6
end Go.Proofs.YtkcfgbddlpomgaaGreat.Fl
