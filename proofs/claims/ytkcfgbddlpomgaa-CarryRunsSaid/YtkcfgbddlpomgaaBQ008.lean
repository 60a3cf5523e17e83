/-
  The two loops of Lea. Conditions as told.
-/
import Derived.Test.YtkcfgbddlpomgaaBQ006
import Derived.Test.YtkcfgbddlpomgaaBQ007
import Derived.Shelf.Slices.In.SortNone
import Derived.Shelf.Sort.Plain
import Derived.Shelf.Slices.CompactI
import Derived.Shelf.Slices.SearchI
import Derived.OpenShut
import Derived.Carry
import Derived.ChangeMaps5
import Derived.ChangeArms
set_option maxRecDepth 100000
set_option maxHeartbeats 64000000
open Go.Obj renaming cells->D
open _root_.Option renaming some->J,none->K
namespace Go.Proofs.Ytkcfgbddlpomgaa.Bk
open Go.RowKit Go.Sort Rw Ytkcfgbddlpomgaa.Nm Pr
theorem wR (l:List Id) (x:Id) (k:Nat) (hall:∀ (j:Nat) (y:Id),j<k->l[j]?=J y->dD y x=true) (hend:k=l.length\/∃ y,l[k]?=J y/\dD y x=false):gu l x=k:=by
 unfold gu
 induction l generalizing k with
 | nil =>
  rcases hend with h|⟨y,h,_⟩
  ·rw [h]; rfl
  ·simp at h
 | cons a l ih =>
  cases k with
  | zero =>
   rcases hend with h|⟨y,h,h2⟩
   ·simp at h
   ·obtain rfl:a=y:=by simpa using h
    rw [List.takeWhile_cons,h2]
    rfl
  | succ k =>
   have h0:=hall 0 a (by omega) rfl;rw [List.takeWhile_cons,h0];simp only [if_true,List.length_cons];rw [ih k (fun j y hj hy=>hall (j+1) y (by omega) (by simpa using hy)) (by
    rcases hend with h|⟨y,h,h2⟩
    ·exact Or.inl (by simpa using h)
    ·exact Or.inr ⟨y,by simpa using h,h2⟩)]
def fu {α:Type} (l:List α) (k:Nat) (x:α):List α:=l.take k++[x]++l.drop k
def jF (b:Br) (a:Ad):Br×Bool:=if a.id∈b.seen then (b,false) else ({ b with seen:=fu b.seen (gu b.seen a.id) a.id,dU:=fu b.dU (gu (b.dU.map Ad.id) a.id) a },true)
abbrev iU (W:World) (b:Nat) (a0 a1 a2 a3 a4 a5:Value):World:=(((((W.setCell ⟨b,0,K⟩ a0).setCell ⟨b,1,K⟩ a1).setCell ⟨b,2,K⟩ a2).setCell ⟨b,3,K⟩ a3).setCell ⟨b,4,K⟩ a4).setCell ⟨b,5,K⟩ a5
theorem dY {W:World} {b:Nat} {t:TypeId} {z0 z1 z2 z3 z4 z5:Value} (h:dh W b #[z0,z1,z2,z3,z4,z5] t) (a0 a1 a2 a3 a4 a5:Value):dh (iU W b a0 a1 a2 a3 a4 a5) b #[a0,a1,a2,a3,a4,a5] t:=by
 have h2:=dG (k:=5) (dG (k:=4) (dG (k:=3) (dG (k:=2) (dG (k:=1) (dG (k:=0) h a0) a1) a2) a3) a4) a5;simp only [List.setIfInBounds_toArray,List.set_cons_zero,List.set_cons_succ] at h2;exact h2
theorem dM {w W:World} {B b:Nat} (h:Below B w W) (hb:B<=b) (a0 a1 a2 a3 a4 a5:Value):Below B w (iU W b a0 a1 a2 a3 a4 a5) :=
 (((((h.setCell hb _).setCell hb _).setCell hb _).setCell hb _).setCell hb _).setCell hb _
theorem uD {α:Type} {E:Ek α} {W:World} {B:Nat} {v:Value} {l:List α} (h:Own E W B v l) (b:Nat) (hb:b<B) (a0 a1 a2 a3 a4 a5:Value):Own E (iU W b a0 a1 a2 a3 a4 a5) B v l :=
 dF (dF (dF (dF (dF (dF h b 0 a0 hb) b 1 a1 hb) b 2 a2 hb) b 3 a3 hb) b 4 a4 hb) b 5 a5 hb
theorem kC (w:World) (c d e:Array Value) (r s t:TypeId):Below w.heap.size w (((w.alloc (D c r)).alloc (D d s)).alloc (D e t))/\dh (((w.alloc (D c r)).alloc (D d s)).alloc (D e t)) w.heap.size c r/\dh (((w.alloc (D c r)).alloc (D d s)).alloc (D e t)) (w.heap.size+1) d s/\dh (((w.alloc (D c r)).alloc (D d s)).alloc (D e t)) (w.heap.size+1+1) e t:=by
 refine⟨(((Below.refl _ _).alloc (Nat.le_refl _) _).alloc (by simp) _).alloc (by simp; omega) _,((dB w c r).more _).more _,?_,?_⟩
 ·have h:=(dB (w.alloc (D c r)) d s).more (D e t);simpa using h
 ·have h:=dB ((w.alloc (D c r)).alloc (D d s)) e t;simpa using h
theorem jc (l:List Id) (x:Id):gu l x<=l.length:=by
 unfold gu;exact (List.takeWhile_sublist _).length_le
theorem DT (a b c d:Int) (r:Bool) (h:(!(a == c && b == d))=r) (w:World):(binOp .neq 23 (.agg #[.int .i64 a,.int .i64 b]) (.agg #[.int .i64 c,.int .i64 d])).run Try.prog w=.ok (.bool r) w:=by
 have st:=sw;subst h;by_cases h1:a=c <;> by_cases h2:b=d <;> simp [go_sem,Try.underlying23,Try.underlying3,st,h1,h2]
structure zB (b:Br):Prop where
 near:b.near.length<=900
 dU:b.dU.length<=900
 seen:b.seen.length<=900
 ent:b.ent.length<=900
 own:b.own.length<=900
end Go.Proofs.Ytkcfgbddlpomgaa.Bk
namespace Go.Proofs.Ytkcfgbddlpomgaa.Kp
open Go.RowKit Va In
def nm (i:Nat):ByteArray:=⟨#[UInt8.ofNat (97+i)]⟩
end Go.Proofs.Ytkcfgbddlpomgaa.Kp
namespace Go.Proofs
open Go.Shelf
def Try.sortI_ren:Go.Shelf.Ren:=⟨fun | 189=>16 | 125=>40 | 257=>39 | 128=>66 | 129=>67 | 294=>57 | 295=>58 | 296=>59 | 297=>60 | 298=>61 | 299=>62 | 216=>63 | 300=>64 | 301=>65 | 328=>76 | 329=>77 | 330=>78 | 331=>79 | 332=>80 | 215=>56 | 343=>87 | n=>n,fun | 28=>24 | 3=>3 | 46=>94 | 0=>0 | 51=>118 | 53=>120 | 4=>4 | 183=>111 | 182=>110 | 131=>63 | 5=>5 | 9=>9 | 218=>126 | 222=>130 | 228=>139 | 229=>140 | n=>n,fun | n=>n⟩
theorem Try.sortI:Go.Proofs.Lays.n189 Try.prog Try.sortI_ren:={
 mixed:=by kernel_rfl
 f125:=Try.func40.trans (congrArg J (by kernel_rfl))
 f128:=Try.func66.trans (congrArg J (by kernel_rfl))
 f129:=Try.func67.trans (congrArg J (by kernel_rfl))
 f189:=Try.func16.trans (congrArg J (by kernel_rfl))
 f215:=Try.func56.trans (congrArg J (by kernel_rfl))
 f216:=Try.func63.trans (congrArg J (by kernel_rfl))
 f257:=Try.func39.trans (congrArg J (by kernel_rfl))
 f294:=Try.func57.trans (congrArg J (by kernel_rfl))
 f295:=Try.func58.trans (congrArg J (by kernel_rfl))
 f296:=Try.func59.trans (congrArg J (by kernel_rfl))
 f297:=Try.func60.trans (congrArg J (by kernel_rfl))
 f298:=Try.func61.trans (congrArg J (by kernel_rfl))
 f299:=Try.func62.trans (congrArg J (by kernel_rfl))
 f300:=Try.func64.trans (congrArg J (by kernel_rfl))
 f301:=Try.func65.trans (congrArg J (by kernel_rfl))
 f328:=Try.func76.trans (congrArg J (by kernel_rfl))
 f329:=Try.func77.trans (congrArg J (by kernel_rfl))
 f330:=Try.func78.trans (congrArg J (by kernel_rfl))
 f331:=Try.func79.trans (congrArg J (by kernel_rfl))
 f332:=Try.func80.trans (congrArg J (by kernel_rfl))
 f343:=Try.func87.trans (congrArg J (by kernel_rfl))
 t0:=Try.underlying0
 a0:=Try.isAgg0
 z0:=Try.sizeOf0
 v0:=Try.zeroValue0
 t3:=Try.underlying3
 a3:=Try.isAgg3
 z3:=Try.sizeOf3
 v3:=Try.zeroValue3
 t4:=Try.underlying4
 a4:=Try.isAgg4
 z4:=Try.sizeOf4
 v4:=Try.zeroValue4
 t5:=Try.underlying5
 a5:=Try.isAgg5
 z5:=Try.sizeOf5
 v5:=Try.zeroValue5
 t9:=Try.underlying9
 a9:=Try.isAgg9
 z9:=Try.sizeOf9
 v9:=Try.zeroValue9
 t28:=Try.underlying24
 a28:=Try.isAgg24
 z28:=Try.sizeOf24
 v28:=Try.zeroValue24
 t46:=Try.underlying94
 a46:=Try.isAgg94
 z46:=Try.sizeOf94
 v46:=Try.zeroValue94
 t51:=Try.underlying118
 a51:=Try.isAgg118
 z51:=Try.sizeOf118
 v51:=Try.zeroValue118
 t53:=Try.underlying120
 a53:=Try.isAgg120
 z53:=Try.sizeOf120
 v53:=Try.zeroValue120
 t131:=Try.underlying63
 a131:=Try.isAgg63
 z131:=Try.sizeOf63
 v131:=Try.zeroValue63
 t182:=Try.underlying110
 a182:=Try.isAgg110
 z182:=Try.sizeOf110
 v182:=Try.zeroValue110
 t183:=Try.underlying111
 a183:=Try.isAgg111
 z183:=Try.sizeOf111
 v183:=Try.zeroValue111
 t218:=Try.underlying126
 a218:=Try.isAgg126
 z218:=Try.sizeOf126
 v218:=Try.zeroValue126
 t222:=Try.underlying130
 a222:=Try.isAgg130
 z222:=Try.sizeOf130
 v222:=Try.zeroValue130
 t228:=Try.underlying139
 a228:=Try.isAgg139
 z228:=Try.sizeOf139
 v228:=Try.zeroValue139
 t229:=Try.underlying140
 a229:=Try.isAgg140
 z229:=Try.sizeOf140
 v229:=Try.zeroValue140 }
def Try.cptI_ren:Go.Shelf.Ren:=⟨fun | 20=>17 | n=>n,fun | 0=>0 | 3=>3 | 4=>4 | 22=>24 | n=>n,fun | n=>n⟩
theorem Try.cptI:Go.Proofs.Lays2.n20 Try.prog Try.cptI_ren:={
 mixed:=by kernel_rfl
 i3:=by kernel_rfl
 f20:=Try.func17.trans (congrArg J (by kernel_rfl))
 t0:=Try.underlying0
 a0:=Try.isAgg0
 z0:=Try.sizeOf0
 v0:=Try.zeroValue0
 t3:=Try.underlying3
 a3:=Try.isAgg3
 z3:=Try.sizeOf3
 v3:=Try.zeroValue3
 t4:=Try.underlying4
 a4:=Try.isAgg4
 z4:=Try.sizeOf4
 v4:=Try.zeroValue4
 t22:=Try.underlying24
 a22:=Try.isAgg24
 z22:=Try.sizeOf24
 v22:=Try.zeroValue24 }
end Go.Proofs
namespace Go.Proofs.Ytkcfgbddlpomgaa.Rl
open Go.RowKit Pu Pr
end Go.Proofs.Ytkcfgbddlpomgaa.Rl
namespace Go.Proofs.Ytkcfgbddlpomgaa.Rl
open Go.RowKit Pu Pr
end Go.Proofs.Ytkcfgbddlpomgaa.Rl
namespace Go.Proofs.Ytkcfgbddlpomgaa.Ar
open Go.ChangeShapes Go.WideShapes Go.RowKit
end Go.Proofs.Ytkcfgbddlpomgaa.Ar
