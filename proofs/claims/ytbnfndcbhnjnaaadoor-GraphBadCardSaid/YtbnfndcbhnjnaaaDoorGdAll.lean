/-
  Package graph, whole: what each function tells. Condition: as each theorem states it.
-/
import Derived.Test.YtbnfndcbhnjnaaaDoorGdSortC
import Derived.Test.YtbnfndcbhnjnaaaDoorBm
import Derived.Test.YtbnfndcbhnjnaaaDoorGdCheck
namespace Go.Proofs.YtbnfndcbhnjnaaaDoor.Gr
open Go.RowKit Go.Sort Go.Proofs.YtbnfndcbhnjnaaaDoor Go.Proofs.YtbnfndcbhnjnaaaDoor.Rw

theorem near_ok (n : Int) (lv : Value) (l : List Lk) (b : Int) (w : World) (hl : RowK w lv l) (hr : Good n l) (h400 : l.length ≤ 400) :
    Calls Tryd.prog 11 #[gv n lv, .int .i64 b] w fun e w' => (∃ v r, e = .returned v ∧ OwnI w' w.heap.size v r ∧ NearIs l b r) ∧ Below w.heap.size w w' := near_any sortI_ok n lv l b w hl hr.1 hr.2 h400
theorem ways_ok (n : Int) (lv : Value) (l : List Lk) (w : World) (hl : RowK w lv l) (hr : Good n l) (h400 : l.length ≤ 400) :
    Calls Tryd.prog 12 #[gv n lv] w fun e w' => (∃ v r, e = .returned v ∧ OwnK w' w.heap.size v r ∧ WaysIs l r) ∧ Below w.heap.size w w' := ways_any sortL_ok n lv l w hl hr.1 hr.2 h400
theorem far_ok (n : Int) (lv : Value) (l : List Lk) (a b : Int) (w : World) (hl : RowK w lv l) (hr : Good n l) (h400 : l.length ≤ 400) (hn : n ≤ 800) (hb : I64 b) :
    Calls Tryd.prog 15 #[gv n lv, .int .i64 a, .int .i64 b] w fun e w' => (∃ r, e = .returned (.int .i64 r) ∧ FarIs n l a b r) ∧ Below w.heap.size w w' := far_any sortL_ok n lv l a b w hl hr.1 hr.2 h400 hn hb
theorem check_ok (n : Int) (lv : Value) (l : List Lk) (w : World) (hl : RowK w lv l) (hn : I64 n) : Calls Tryd.prog 9 #[gv n lv] w (CheckQ w n l) := check_any sortL_ok n lv l w hl hn
end Go.Proofs.YtbnfndcbhnjnaaaDoor.Gr
