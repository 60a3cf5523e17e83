/-
  Attributes of packag. Conditions as told.
-/
import Derived.Test.YtghlpefopidlaaaGreatBQ003
import Derived.Shelf.Slices.In.SortNone
import Derived.Shelf.Sort.Plain
import Derived.Shelf.Slices.CompactI
import Derived.Shelf.Slices.SearchI
set_option maxRecDepth 100000
set_option maxHeartbeats 64000000
open _root_.Option renaming some->D
namespace Go.Proofs.YtghlpefopidlaaaGreat.At
open Go.RowKit Va
abbrev A4:=ByteArray×Bool×Int×ByteArray
abbrev av (x:A4):Value:=.agg #[.string x.1,.bool x.2.1,.int .i64 x.2.2.1,.string x.2.2.2]
def TV (x:A4):List Value:=[.string x.1,.bool x.2.1,.int .i64 x.2.2.1,.string x.2.2.2]
end Go.Proofs.YtghlpefopidlaaaGreat.At
namespace Go.Proofs.YtghlpefopidlaaaGreat.Bk
open Go.RowKit Rw YtghlpefopidlaaaGreat.Nm Pr
end Go.Proofs.YtghlpefopidlaaaGreat.Bk
namespace Go.Proofs.YtghlpefopidlaaaGreat.Bk
open Go.RowKit Rw YtghlpefopidlaaaGreat.Nm Pr
end Go.Proofs.YtghlpefopidlaaaGreat.Bk
namespace Go.Proofs.YtghlpefopidlaaaGreat.Rl
open Go.RowKit Pu Pr
theorem IJ {a b:List Cn} (ha:iB a) (h5:a.length<=5):uY (a++b)=jg a.length a b:=by
 have e:=Io a ha h5;rw [uY] at e;rw [uY,tX a b [] a 0 e,Nat.zero_add]
end Go.Proofs.YtghlpefopidlaaaGreat.Rl
namespace Go.Proofs.YtghlpefopidlaaaGreat.Rl
open Go.RowKit Pu Rw Pr
def EA:Ek An:=⟨175,41,4,48,.agg #[.string ⟨#[]⟩,.bool false,.int .i64 0,.string ⟨#[]⟩],At.av,At.TV⟩
end Go.Proofs.YtghlpefopidlaaaGreat.Rl
namespace Go.Proofs
open Go.Shelf
def Tryz.sortI_ren:Go.Shelf.Ren:=⟨fun | 189=>40 | 125=>109 | 257=>108 | 128=>153 | 129=>154 | 294=>144 | 295=>145 | 296=>146 | 297=>147 | 298=>148 | 299=>149 | 216=>150 | 300=>151 | 301=>152 | 328=>175 | 329=>176 | 330=>177 | 331=>178 | 332=>179 | 215=>128 | 343=>194 | n=>n,fun | 28=>24 | 3=>3 | 46=>155 | 0=>0 | 51=>199 | 53=>201 | 4=>4 | 183=>192 | 182=>191 | 131=>84 | 5=>5 | 9=>9 | 218=>215 | 222=>219 | 228=>234 | 229=>235 | n=>n,fun | n=>n⟩
theorem Tryz.sortI:Go.Proofs.Lays.n189 Tryz.prog Tryz.sortI_ren:={
 mixed:=by kernel_rfl
 f125:=Tryz.func109.trans (congrArg D (by kernel_rfl))
 f128:=Tryz.func153.trans (congrArg D (by kernel_rfl))
 f129:=Tryz.func154.trans (congrArg D (by kernel_rfl))
 f189:=Tryz.func40.trans (congrArg D (by kernel_rfl))
 f215:=Tryz.func128.trans (congrArg D (by kernel_rfl))
 f216:=Tryz.func150.trans (congrArg D (by kernel_rfl))
 f257:=Tryz.func108.trans (congrArg D (by kernel_rfl))
 f294:=Tryz.func144.trans (congrArg D (by kernel_rfl))
 f295:=Tryz.func145.trans (congrArg D (by kernel_rfl))
 f296:=Tryz.func146.trans (congrArg D (by kernel_rfl))
 f297:=Tryz.func147.trans (congrArg D (by kernel_rfl))
 f298:=Tryz.func148.trans (congrArg D (by kernel_rfl))
 f299:=Tryz.func149.trans (congrArg D (by kernel_rfl))
 f300:=Tryz.func151.trans (congrArg D (by kernel_rfl))
 f301:=Tryz.func152.trans (congrArg D (by kernel_rfl))
 f328:=Tryz.func175.trans (congrArg D (by kernel_rfl))
 f329:=Tryz.func176.trans (congrArg D (by kernel_rfl))
 f330:=Tryz.func177.trans (congrArg D (by kernel_rfl))
 f331:=Tryz.func178.trans (congrArg D (by kernel_rfl))
 f332:=Tryz.func179.trans (congrArg D (by kernel_rfl))
 f343:=Tryz.func194.trans (congrArg D (by kernel_rfl))
 t0:=Tryz.underlying0
 a0:=Tryz.isAgg0
 z0:=Tryz.sizeOf0
 v0:=Tryz.zeroValue0
 t3:=Tryz.underlying3
 a3:=Tryz.isAgg3
 z3:=Tryz.sizeOf3
 v3:=Tryz.zeroValue3
 t4:=Tryz.underlying4
 a4:=Tryz.isAgg4
 z4:=Tryz.sizeOf4
 v4:=Tryz.zeroValue4
 t5:=Tryz.underlying5
 a5:=Tryz.isAgg5
 z5:=Tryz.sizeOf5
 v5:=Tryz.zeroValue5
 t9:=Tryz.underlying9
 a9:=Tryz.isAgg9
 z9:=Tryz.sizeOf9
 v9:=Tryz.zeroValue9
 t28:=Tryz.underlying24
 a28:=Tryz.isAgg24
 z28:=Tryz.sizeOf24
 v28:=Tryz.zeroValue24
 t46:=Tryz.underlying155
 a46:=Tryz.isAgg155
 z46:=Tryz.sizeOf155
 v46:=Tryz.zeroValue155
 t51:=Tryz.underlying199
 a51:=Tryz.isAgg199
 z51:=Tryz.sizeOf199
 v51:=Tryz.zeroValue199
 t53:=Tryz.underlying201
 a53:=Tryz.isAgg201
 z53:=Tryz.sizeOf201
 v53:=Tryz.zeroValue201
 t131:=Tryz.underlying84
 a131:=Tryz.isAgg84
 z131:=Tryz.sizeOf84
 v131:=Tryz.zeroValue84
 t182:=Tryz.underlying191
 a182:=Tryz.isAgg191
 z182:=Tryz.sizeOf191
 v182:=Tryz.zeroValue191
 t183:=Tryz.underlying192
 a183:=Tryz.isAgg192
 z183:=Tryz.sizeOf192
 v183:=Tryz.zeroValue192
 t218:=Tryz.underlying215
 a218:=Tryz.isAgg215
 z218:=Tryz.sizeOf215
 v218:=Tryz.zeroValue215
 t222:=Tryz.underlying219
 a222:=Tryz.isAgg219
 z222:=Tryz.sizeOf219
 v222:=Tryz.zeroValue219
 t228:=Tryz.underlying234
 a228:=Tryz.isAgg234
 z228:=Tryz.sizeOf234
 v228:=Tryz.zeroValue234
 t229:=Tryz.underlying235
 a229:=Tryz.isAgg235
 z229:=Tryz.sizeOf235
 v229:=Tryz.zeroValue235 }
def Tryz.cptI_ren:Go.Shelf.Ren:=⟨fun | 20=>41 | n=>n,fun | 0=>0 | 3=>3 | 4=>4 | 22=>24 | n=>n,fun | n=>n⟩
theorem Tryz.cptI:Go.Proofs.Lays2.n20 Tryz.prog Tryz.cptI_ren:={
 mixed:=by kernel_rfl
 i3:=by kernel_rfl
 f20:=Tryz.func41.trans (congrArg D (by kernel_rfl))
 t0:=Tryz.underlying0
 a0:=Tryz.isAgg0
 z0:=Tryz.sizeOf0
 v0:=Tryz.zeroValue0
 t3:=Tryz.underlying3
 a3:=Tryz.isAgg3
 z3:=Tryz.sizeOf3
 v3:=Tryz.zeroValue3
 t4:=Tryz.underlying4
 a4:=Tryz.isAgg4
 z4:=Tryz.sizeOf4
 v4:=Tryz.zeroValue4
 t22:=Tryz.underlying24
 a22:=Tryz.isAgg24
 z22:=Tryz.sizeOf24
 v22:=Tryz.zeroValue24 }
def Tryz.bsI_ren:Go.Shelf.Ren:=⟨fun | 25=>165 | 31=>150 | 32=>186 | 37=>128 | n=>n,fun | 0=>0 | 3=>3 | 4=>4 | 22=>24 | 40=>155 | n=>n,fun | n=>n⟩
theorem Tryz.bsI:Go.Proofs.Lays2.n25 Tryz.prog Tryz.bsI_ren:={
 mixed:=by kernel_rfl
 f25:=Tryz.func165.trans (congrArg D (by kernel_rfl))
 f31:=Tryz.func150.trans (congrArg D (by kernel_rfl))
 f32:=Tryz.func186.trans (congrArg D (by kernel_rfl))
 f37:=Tryz.func128.trans (congrArg D (by kernel_rfl))
 t0:=Tryz.underlying0
 a0:=Tryz.isAgg0
 z0:=Tryz.sizeOf0
 v0:=Tryz.zeroValue0
 t3:=Tryz.underlying3
 a3:=Tryz.isAgg3
 z3:=Tryz.sizeOf3
 v3:=Tryz.zeroValue3
 t4:=Tryz.underlying4
 a4:=Tryz.isAgg4
 z4:=Tryz.sizeOf4
 v4:=Tryz.zeroValue4
 t22:=Tryz.underlying24
 a22:=Tryz.isAgg24
 z22:=Tryz.sizeOf24
 v22:=Tryz.zeroValue24
 t40:=Tryz.underlying155
 a40:=Tryz.isAgg155
 z40:=Tryz.sizeOf155
 v40:=Tryz.zeroValue155 }
end Go.Proofs
namespace Go.Proofs.YtghlpefopidlaaaGreat.Rg
open Go.RowKit
end Go.Proofs.YtghlpefopidlaaaGreat.Rg
namespace Go.Proofs.YtghlpefopidlaaaGreat.Rg
open Go.RowKit Rw
end Go.Proofs.YtghlpefopidlaaaGreat.Rg
