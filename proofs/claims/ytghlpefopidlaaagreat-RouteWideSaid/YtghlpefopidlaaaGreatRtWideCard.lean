/-
  The widest subscription, made first, is passed on alone in each tree; taken back, each one it covered goes up ahead of its end, as far as they don't cover one another: at every list of predicates of numbers and number the law RouteWide answers true, and each argument reads behind the call as it read before. Conditions: none.
-/
import Derived.Test.YtghlpefopidlaaaGreatRows
import Derived.Test.YtghlpefopidlaaaGreatOQ049
import Derived.Deep.DeepHandedRow
import Derived.ChangeVars
import Derived.JoinedOf
import Derived.RowKitTokens
import Derived.LaidLaws
import Derived.LaidHandle
import Derived.Lay
import Derived.Lib.LaidTab
import Derived.Stop.Joined
import Derived.SevenTiedAt
set_option maxRecDepth 100000
set_option maxHeartbeats 64000000
namespace Go.Proofs.YtghlpefopidlaaaGreat.routeWide
open Go.ChangeShapes Go.WideShapes Go.ChangeAt Go.RowKit Go.ChangeMaps

theorem Zj {n:Int} (h:(Lit.int .i64 n).wf=true):-9223372036854775808≤n:=by
 have h2:(decide (IntKind.i64.min≤n) && decide (n≤IntKind.i64.max))=true:=h
 rw [Bool.and_eq_true,decide_eq_true_eq,decide_eq_true_eq,show IntKind.i64.min=-9223372036854775808 by decide,show IntKind.i64.max=9223372036854775807 by decide] at h2
 exact h2.1
theorem Zk {n:Int} (h:(Lit.int .i64 n).wf=true):n≤9223372036854775807:=by
 have h2:(decide (IntKind.i64.min≤n) && decide (n≤IntKind.i64.max))=true:=h
 rw [Bool.and_eq_true,decide_eq_true_eq,decide_eq_true_eq,show IntKind.i64.min=-9223372036854775808 by decide,show IntKind.i64.max=9223372036854775807 by decide] at h2
 exact h2.2
theorem own:ownKnob Tryz.prog.godebug=none:=by kernel_rfl
theorem handle {W:World} (_:laidMetH Tryz.prog Rows.routeWideRow.laid W):True:=trivial

theorem contract (H:Type) (enc:TypeId×Value→H) (W:World) (base:Nat) (args:Array Value) (ds gs:List (DataW H)) (before:List MemPlace)
  (hval:∀ (j:Nat) t v,Tryz.f7.params[j]?=some t→args[j]?=some v→Value.okWide Tryz.prog W .any base t v)
  (hW:DataW.Whole enc Tryz.prog Tryz.f7.params.toList Rows.routeWideSpec.vars false W args.toList ds gs before) (hL:laidMetH Tryz.prog Rows.routeWideRow.laid W) :
  Calls Tryz.prog 7 args W fun e W'=>∃ v,e=.returned v∧Rows.routeWideSpec.post enc Tryz.prog Tryz.f7 false true false false W args v W':=by
 have hW':=hW
 obtain⟨p,q,hA0,hV,rfl,hfz,hnd⟩:=hW
 have hA:DataW.TrodAll enc Tryz.prog W 0 (fun _=>true) true Tryz.f7.params.toList args.toList ds p:=hA0
 rw [Tryz.params7] at hA hval
 obtain⟨v0,vs0,d0,ds0,p0,q0,hargs,rfl,rfl,h0,r0⟩:=trodAll_cons hA
 obtain⟨v1,vs1,d1,ds1,p1,q1,rfl,rfl,rfl,h1,r1⟩:=trodAll_cons r0
 obtain⟨rfl,rfl,rfl⟩:=trodAll_nil r1
 obtain rfl:args=#[v0,v1]:=by cases args; simp_all
 obtain⟨rfl,rfl⟩:=trodVars_none hV
 obtain⟨n0,_,ip0⟩:=Av.SH (hval 0 73 v0 rfl rfl) h0
 obtain⟨n1,rfl,rfl,rfl,w1⟩:=open_int Tryz.underlying3 (hval 1 3 v1 rfl rfl) h1
 simp only [List.append_nil] at hW'
 have hg:=handle hL
 refine (Rt.Jp v0 n0 n1 W ip0 (Zj w1) (Zk w1)).mono fun e W' ⟨he,hb⟩=>?_
 subst he
 have hc:=Ar.carry (P:=Tryz.prog) (by kernel_rfl) hb _ _ _ _ (by kernel_rfl) hA0 (fun x hx=>hW'.lt x (by first | (simp at hx; done) | simpa using hx))
 exact⟨_,rfl,_,_,_,[],_,[],hW',trodAll_cons_mk (shut_bool Tryz.underlying4 _) trodAll_mk0,hc,rfl,hb.frame _,fun h=>by cases h⟩

noncomputable def sN (os:Os):World:=World.holding Tryz.prog os ⟨#[],#[],[]⟩
theorem M8 (os:Os):laidMetH Tryz.prog Rows.routeWideRow.laid ((sN os).forCall (fun _ _=>0) ⟨#[],#[.slice none 0 0,.int .i64 0],[]⟩).memory :=
 laidMetH_of_parts (laidMet_nil _ _) (by kernel_rfl)
theorem reads (os:Os) {H:Type} (enc:TypeId×Value→H):∃ places,DataW.whole enc Tryz.prog ((sN os).forCall (fun _ _=>0) ⟨#[],#[.slice none 0 0,.int .i64 0],[]⟩).memory Tryz.f7.params.toList Rows.routeWideSpec.vars false (#[.slice none 0 0,.int .i64 0]:Array Value).toList 8=some ([.nil,.lit (.int .i64 0)],[],places) :=
 ⟨[],by kernel_rfl⟩

theorem lifted (os:Os) (started:os.Started) (H:Type) (enc:TypeId×Value→H) (F:Stop.Interp) :
  ReturnsInHanded {} Tryz.checked os 7 .any ((OpenSpec.ofChange Rows.routeWideSpec).preRow enc Tryz.prog Tryz.f7 Rows.routeWideRow.domain false Rows.routeWideRow.laid) (((OpenSpec.ofChange Rows.routeWideSpec).at F).post enc Tryz.prog Tryz.f7 false true false false):=by
 obtain⟨places,hx⟩:=reads os enc
 refine returnsInHanded_of_row (C:=Tryz.checked) (s:=OpenSpec.ofChange Rows.routeWideSpec) own started (by kernel_rfl) Tryz.func7
  (witness_row_at (enc:=enc) (C:=Tryz.checked) false (sN os) #[.slice none 0 0,.int .i64 0] (by first | rfl | exact World.laidAll_os _ _ _ | exact World.layVars_os _ _ _) (by kernel_rfl) (by kernel_rfl) (by kernel_rfl)
   (OpenSpec.preRow_of_cond 8 hx (by kernel_rfl) (fun k hk=>by cases hk) (by kernel_rfl) (M8 os))) ?_
 intro W base args ds gs before hval hW _ _ _ hL _ _
 exact contract H enc W base args ds gs before hval hW hL

theorem said:Rows.RouteWideSaid :=
 OpenClaim.holds_of_cond 7 Tryz.f7 rfl rfl rfl rfl rfl rfl rfl ⟨rfl,rfl,rfl,rfl,rfl⟩ rfl rfl rfl rfl rfl (by kernel_rfl) Tryz.func7 (by kernel_rfl)
  (of_decide_eq_true (by kernel_rfl)) (by unfold Func.isWrapper; first | (rw [if_pos (by decide +kernel)]; kernel_rfl) | (rw [if_neg (by decide +kernel)]; exact⟨rfl,rfl⟩))
  (fun os started H enc _ F=>by rw [OpenClaim.pre_eq_preRow]; exact lifted os started H enc F)

end Go.Proofs.YtghlpefopidlaaaGreat.routeWide
