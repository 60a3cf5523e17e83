/-
  Rows of one's own, w. Conditions as told.
-/
import Derived.Test.YtmklifheakemeaaOQ003
import Derived.Test.YtmklifheakemeaaOQ007
set_option maxRecDepth 100000
set_option maxHeartbeats 64000000
namespace Go.Proofs.Ytmklifheakemeaa.Bk
open Go.RowKit Rw
theorem dF {α:Type} {E:Ek α} {W:World} {B C:Nat} {v:Value} {l:List α} (h:Own E W B v l) (hc:C<=B):Own E W C v l:=by
 refine⟨h.1,?_⟩;rcases h.2 with h2|⟨g,cap,cur,h1,h2,h3⟩
 ·exact Or.inl h2
 ·exact Or.inr ⟨g,cap,cur,h1,Nat.le_trans hc h2,h3⟩
theorem dB {α:Type} {E:Ek α} {W W':World} {B:Nat} {v:Value} {l:List α} (h:Own E W B v l) (hb:Below W.heap.size W W'):Own E W' B v l :=
 h.kept (w':=W') (row:=none) ⟨hb.os,hb.tape,hb.output,hb.size,fun k hk _=>hb.block k hk⟩ (by cases v.ownBlock <;> simp)
theorem dQ {α:Type} {E:Ek α} {W:World} {B:Nat} {v:Value} {l:List α} (h:Own E W B v l) (b k:Nat) (x:Value) (hb:b<B):Own E (W.setCell ⟨b,k,none⟩ x) B v l :=
 h.kept (w':=W.setCell ⟨b,k,none⟩ x) (row:=some b) ⟨rfl,rfl,rfl,by simp [World.setCell],fun j _ hne=>RowKit.Below.heap_setCell _ _ _ _ (fun e=>hne (by rw [e]))⟩ (by
  cases hv:v.ownBlock with
  | none=>exact Or.inl rfl
  | some j =>
   refine Or.inr fun e=>?_;injection e with e
   have h1:=(h.lt j hv).1;omega)
theorem add_one (x y:Operand) (t:TypeId) (w:World) (k:Nat) (hk:k<=900):(do eqGuard .add t x y (.int .i64 k) (.int .i64 1); binOp .add t (.int .i64 k) (.int .i64 1):Sem Value).run Try.prog w=.ok (.int .i64 ((k:Int)+1)) w:=by
 have h:IntKind.i64.wrap ((k:Int)+1)=(k:Int)+1:=IntWalk.i64_in _ (by omega);simp [eqGuard,binOp,Op.intArith,go_sem,h]
theorem dX {W:World} {rb k:Nat} {cs:Array Value} {t:TypeId} (h:dz W rb cs t) (x:Value):dz (W.setCell ⟨rb,k,none⟩ x) rb (cs.setIfInBounds k x) t:=heap_setCell_same W rb k cs t x h
end Go.Proofs.Ytmklifheakemeaa.Bk
