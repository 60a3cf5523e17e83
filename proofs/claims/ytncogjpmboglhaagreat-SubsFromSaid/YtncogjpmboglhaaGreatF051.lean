/-
  A broker that steps . Conditions as told.
-/
import Derived.Test.YtncogjpmboglhaaGreatF050
set_option maxRecDepth 100000
set_option maxHeartbeats 64000000
namespace Go.Proofs.YtncogjpmboglhaaGreat.Av
open Go.RowKit Go.Sort Rw YtncogjpmboglhaaGreat.Nm Pr Bk
theorem predOk_len {p:List C5} (h:PredOk p):p.length≤5:=by
 obtain⟨a,na,rfl⟩:=h
 rw [List.length_map]
 exact na.five
theorem KI.few {b:Br} (h:KI 12 b):Few b:=⟨Nat.le_trans h.ln (by decide),Nat.le_trans h.la (by decide),Nat.le_trans h.ls (by decide),Nat.le_trans h.le (by decide),Nat.le_trans h.lo (by decide)⟩
theorem KI.fewp {b:Br} (h:KI 12 b):FewP b:=⟨fun a q=>Nat.le_trans (predOk_len (h.pa a q)) (by decide),fun a q=>Nat.le_trans (predOk_len (h.pe a q)) (by decide),fun a q=>Nat.le_trans (predOk_len (h.po a q)) (by decide)⟩
end Go.Proofs.YtncogjpmboglhaaGreat.Av
