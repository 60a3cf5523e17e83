/-
  The contracts of package pred, together. Conditions: strconv's table of powers of ten is as its text lays it; package errors' variable holds the handle of the type 'error'.
-/
import Derived.Test.YtbfecndhjlimaaaDoorPnMake
import Derived.Test.YtbfecndhjlimaaaDoorPnSay
import Derived.Test.YtbfecndhjlimaaaDoorPnRight
import Derived.Test.YtbfecndhjlimaaaDoorPnSame
namespace Go.Proofs.YtbfecndhjlimaaaDoor.Pr
open Go.RowKit Go.Proofs.YtbfecndhjlimaaaDoor.Va Go.Proofs.YtbfecndhjlimaaaDoor.Rw

theorem oks : POks (fun w => VG w ∧ Fa.EG w) where
  bel := fun _ _ h hb => ⟨h.1.bel hb, h.2.bel hb⟩
  eg := fun _ h => h.2
  make := fun lv l w _ hl hs hg => make_any lv l w hl hs hg
  say := fun lv l w h hl hs => psay_any lv l w h.1 hl hs
  right := prightOk
  same := psameOk
  holds := fun c t n s w _ _ => holds_any c t n s w
  both := fun a b w _ _ _ _ hn => both_any a b w hn
  one := fun c w hs => one_any c w (by have := hs.1; unfold maxLen; omega)
end Go.Proofs.YtbfecndhjlimaaaDoor.Pr
