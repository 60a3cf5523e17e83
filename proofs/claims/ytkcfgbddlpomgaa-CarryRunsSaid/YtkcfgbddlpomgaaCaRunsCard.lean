/-
  Chapter 13's runs of package carry: for every start the law CarryRuns answers true and turns nothing of what was there. Conditions: none.
-/
import Derived.Test.YtkcfgbddlpomgaaRows
import Derived.Test.YtkcfgbddlpomgaaBQ049
import Derived.Deep.DeepHandedRow
import Derived.ChangeVars
import Derived.JoinedOf
import Derived.RowKitTokens
import Derived.LaidLaws
import Derived.LaidHandle
import Derived.Lay
import Derived.Lib.LaidTab
import Derived.Stop.Joined
import Derived.SevenTiedAt
set_option maxRecDepth 100000
set_option maxHeartbeats 64000000
namespace Go.Proofs.Ytkcfgbddlpomgaa.carryRuns
open Go.ChangeShapes Go.WideShapes Go.ChangeAt Go.RowKit Go.ChangeMaps

theorem JU {n:Int} (h:(Lit.int .i64 n).wf=true):-9223372036854775808≤n:=by
 have h2:(decide (IntKind.i64.min≤n) && decide (n≤IntKind.i64.max))=true:=h
 rw [Bool.and_eq_true,decide_eq_true_eq,decide_eq_true_eq,show IntKind.i64.min=-9223372036854775808 by decide,show IntKind.i64.max=9223372036854775807 by decide] at h2
 exact h2.1
theorem JV {n:Int} (h:(Lit.int .i64 n).wf=true):n≤9223372036854775807:=by
 have h2:(decide (IntKind.i64.min≤n) && decide (n≤IntKind.i64.max))=true:=h
 rw [Bool.and_eq_true,decide_eq_true_eq,decide_eq_true_eq,show IntKind.i64.min=-9223372036854775808 by decide,show IntKind.i64.max=9223372036854775807 by decide] at h2
 exact h2.2
theorem own:ownKnob Try.prog.godebug=none:=by kernel_rfl
theorem handle {W:World} (_:laidMetH Try.prog Rows.carryRunsRow.laid W):True:=trivial

theorem contract (H:Type) (enc:TypeId×Value→H) (W:World) (base:Nat) (args:Array Value) (ds gs:List (DataW H)) (before:List MemPlace)
  (hval:∀ (j:Nat) t v,Try.f3.params[j]?=some t→args[j]?=some v→Value.okWide Try.prog W .any base t v)
  (hW:DataW.Whole enc Try.prog Try.f3.params.toList Rows.carryRunsSpec.vars false W args.toList ds gs before) (hL:laidMetH Try.prog Rows.carryRunsRow.laid W) :
  Calls Try.prog 3 args W fun e W'=>∃ v,e=.returned v∧Rows.carryRunsSpec.post enc Try.prog Try.f3 false true false false W args v W':=by
 have hW':=hW
 obtain⟨p,q,Je,hV,rfl,hfz,hnd⟩:=hW
 have hA:DataW.TrodAll enc Try.prog W 0 (fun _=>true) true Try.f3.params.toList args.toList ds p:=Je
 rw [Try.params3] at hA hval
 obtain⟨hargs,rfl,rfl⟩:=trodAll_nil hA
 obtain rfl:args=#[]:=by cases args; simp_all
 obtain⟨rfl,rfl⟩:=trodVars_none hV
 clear Je
 simp only [List.append_nil] at hW'
 have hg:=handle hL
 refine (Ca.wC W).mono fun e W' ⟨he,hb⟩=>?_
 subst he
 refine⟨_,rfl,_,_,_,[],[],[],hW',trodAll_cons_mk (shut_bool Try.underlying4 _) trodAll_mk0,?_,rfl,hb.frame _,fun h=>by cases h⟩
 exact trodAll_mk0

noncomputable def kR (os:Os):World:=World.holding Try.prog os ⟨#[],#[],[]⟩
theorem zA (os:Os):laidMetH Try.prog Rows.carryRunsRow.laid ((kR os).forCall (fun _ _=>0) ⟨#[],#[],[]⟩).memory :=
 laidMetH_of_parts (laidMet_nil _ _) (by kernel_rfl)
theorem reads (os:Os) {H:Type} (enc:TypeId×Value→H):∃ places,DataW.whole enc Try.prog ((kR os).forCall (fun _ _=>0) ⟨#[],#[],[]⟩).memory Try.f3.params.toList Rows.carryRunsSpec.vars false (#[]:Array Value).toList 8=some ([],[],places) :=
 ⟨[],by kernel_rfl⟩

theorem lifted (os:Os) (started:os.Started) (H:Type) (enc:TypeId×Value→H) (F:Stop.Interp) :
  ReturnsInHanded {} Try.checked os 3 .any ((OpenSpec.ofChange Rows.carryRunsSpec).preRow enc Try.prog Try.f3 Rows.carryRunsRow.domain false Rows.carryRunsRow.laid) (((OpenSpec.ofChange Rows.carryRunsSpec).at F).post enc Try.prog Try.f3 false true false false):=by
 obtain⟨places,hx⟩:=reads os enc
 refine returnsInHanded_of_row (C:=Try.checked) (s:=OpenSpec.ofChange Rows.carryRunsSpec) own started (by kernel_rfl) Try.func3
  (witness_row_at (enc:=enc) (C:=Try.checked) false (kR os) #[] (by first | rfl | exact World.laidAll_os _ _ _ | exact World.layVars_os _ _ _) (by kernel_rfl) (by kernel_rfl) (by kernel_rfl)
   (OpenSpec.preRow_of_cond 8 hx (by kernel_rfl) (fun k hk=>by cases hk) (by kernel_rfl) (zA os))) ?_
 intro W base args ds gs before hval hW _ _ _ hL _ _
 exact contract H enc W base args ds gs before hval hW hL

theorem said:Rows.CarryRunsSaid :=
 OpenClaim.holds_of_cond 3 Try.f3 rfl rfl rfl rfl rfl rfl rfl ⟨rfl,rfl,rfl,rfl,rfl⟩ rfl rfl rfl rfl rfl (by kernel_rfl) Try.func3 (by kernel_rfl)
  (of_decide_eq_true (by kernel_rfl)) (by unfold Func.isWrapper; first | (rw [if_pos (by decide +kernel)]; kernel_rfl) | (rw [if_neg (by decide +kernel)]; exact⟨rfl,rfl⟩))
  (fun os started H enc _ F=>by rw [OpenClaim.pre_eq_preRow]; exact lifted os started H enc F)

end Go.Proofs.Ytkcfgbddlpomgaa.carryRuns
