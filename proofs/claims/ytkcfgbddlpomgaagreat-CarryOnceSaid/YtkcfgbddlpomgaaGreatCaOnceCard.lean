/-
  Each neighbour, each client gets one copy at most, rising, none goes back; just those whose own, or whose entries match: at every broker of numbers, number and publication of numbers the law CarryOnce answers true, and each argument reads behind the call as it read before. Conditions: none.
-/
import Derived.Test.YtkcfgbddlpomgaaGreatRows
import Derived.Test.YtkcfgbddlpomgaaGreatLQ049
import Derived.Deep.DeepHandedRow
import Derived.ChangeVars
import Derived.JoinedOf
import Derived.RowKitTokens
import Derived.LaidLaws
import Derived.LaidHandle
import Derived.Lay
import Derived.Lib.LaidTab
import Derived.Stop.Joined
import Derived.SevenTiedAt
set_option maxRecDepth 100000
set_option maxHeartbeats 64000000
namespace Go.Proofs.YtkcfgbddlpomgaaGreat.carryOnce
open Go.ChangeShapes Go.WideShapes Go.ChangeAt Go.RowKit Go.ChangeMaps

theorem aeJ {n:Int} (h:(Lit.int .i64 n).wf=true):-9223372036854775808≤n:=by
 have h2:(decide (IntKind.i64.min≤n) && decide (n≤IntKind.i64.max))=true:=h
 rw [Bool.and_eq_true,decide_eq_true_eq,decide_eq_true_eq,show IntKind.i64.min=-9223372036854775808 by decide,show IntKind.i64.max=9223372036854775807 by decide] at h2
 exact h2.1
theorem aeK {n:Int} (h:(Lit.int .i64 n).wf=true):n≤9223372036854775807:=by
 have h2:(decide (IntKind.i64.min≤n) && decide (n≤IntKind.i64.max))=true:=h
 rw [Bool.and_eq_true,decide_eq_true_eq,decide_eq_true_eq,show IntKind.i64.min=-9223372036854775808 by decide,show IntKind.i64.max=9223372036854775807 by decide] at h2
 exact h2.2
theorem own:ownKnob Tryz.prog.godebug=none:=by kernel_rfl
theorem handle {W:World} (_:laidMetH Tryz.prog Rows.carryOnceRow.laid W):True:=trivial

theorem contract (H:Type) (enc:TypeId×Value→H) (W:World) (base:Nat) (args:Array Value) (ds gs:List (DataW H)) (before:List MemPlace)
  (hval:∀ (j:Nat) t v,Tryz.f4.params[j]?=some t→args[j]?=some v→Value.okWide Tryz.prog W .any base t v)
  (hW:DataW.Whole enc Tryz.prog Tryz.f4.params.toList Rows.carryOnceSpec.vars false W args.toList ds gs before) (hL:laidMetH Tryz.prog Rows.carryOnceRow.laid W) :
  Calls Tryz.prog 4 args W fun e W'=>∃ v,e=.returned v∧Rows.carryOnceSpec.post enc Tryz.prog Tryz.f4 false true false false W args v W':=by
 have hW':=hW
 obtain⟨p,q,hA0,hV,rfl,hfz,hnd⟩:=hW
 have hA:DataW.TrodAll enc Tryz.prog W 0 (fun _=>true) true Tryz.f4.params.toList args.toList ds p:=hA0
 rw [Tryz.params4] at hA hval
 obtain⟨v0,vs0,d0,ds0,p0,q0,hargs,rfl,rfl,h0,r0⟩:=trodAll_cons hA
 obtain⟨v1,vs1,d1,ds1,p1,q1,rfl,rfl,rfl,h1,r1⟩:=trodAll_cons r0
 obtain⟨v2,vs2,d2,ds2,p2,q2,rfl,rfl,rfl,h2,r2⟩:=trodAll_cons r1
 obtain⟨rfl,rfl,rfl⟩:=trodAll_nil r2
 obtain rfl:args=#[v0,v1,v2]:=by cases args; simp_all
 obtain⟨rfl,rfl⟩:=trodVars_none hV
 obtain⟨z0,u0,k0,rfl,lo0,hi0,ln0,hs0⟩:=Av.PG (hval 0 24 v0 rfl rfl) h0
 obtain⟨n1,rfl,rfl,rfl,w1⟩:=open_int Tryz.underlying3 (hval 1 3 v1 rfl rfl) h1
 obtain⟨hv2,vv2,aeL,acd,rfl,lh2,lv2,hh2,hw2⟩:=At.IW (hval 2 27 v2 rfl rfl) h2
 obtain⟨x2,y2,rfl⟩:=hh2.shape
 obtain⟨s2,t2,rfl⟩:=hw2.shape
 simp only [List.append_nil] at hW'
 have hg:=handle hL
 refine (Ca.MV z0 u0 k0 n1 x2 _ y2 s2 _ t2 aeL acd W lo0 hi0 (aeJ w1) (aeK w1) hs0 ln0 hh2 hw2 lh2 lv2).mono fun e W' ⟨he,hb⟩=>?_
 subst he
 have hc:=Ar.carry (P:=Tryz.prog) (by kernel_rfl) hb _ _ _ _ (by kernel_rfl) hA0 (fun x hx=>hW'.lt x (by first | (simp at hx; done) | simpa using hx))
 exact⟨_,rfl,_,_,_,[],_,[],hW',trodAll_cons_mk (shut_bool Tryz.underlying4 _) trodAll_mk0,hc,rfl,hb.frame _,fun h=>by cases h⟩

noncomputable def vI (os:Os):World:=World.holding Tryz.prog os ⟨#[],#[],[]⟩
theorem PI (os:Os):laidMetH Tryz.prog Rows.carryOnceRow.laid ((vI os).forCall (fun _ _=>0) ⟨#[],#[.agg #[.int .i64 0,.slice none 0 0],.int .i64 0,.agg #[.slice none 0 0,.slice none 0 0]],[]⟩).memory :=
 laidMetH_of_parts (laidMet_nil _ _) (by kernel_rfl)
theorem reads (os:Os) {H:Type} (enc:TypeId×Value→H):∃ places,DataW.whole enc Tryz.prog ((vI os).forCall (fun _ _=>0) ⟨#[],#[.agg #[.int .i64 0,.slice none 0 0],.int .i64 0,.agg #[.slice none 0 0,.slice none 0 0]],[]⟩).memory Tryz.f4.params.toList Rows.carryOnceSpec.vars false (#[.agg #[.int .i64 0,.slice none 0 0],.int .i64 0,.agg #[.slice none 0 0,.slice none 0 0]]:Array Value).toList 8=some ([.agg [.lit (.int .i64 0),.nil],.lit (.int .i64 0),.agg [.nil,.nil]],[],places) :=
 ⟨[],by kernel_rfl⟩

theorem lifted (os:Os) (started:os.Started) (H:Type) (enc:TypeId×Value→H) (F:Stop.Interp) :
  ReturnsInHanded {} Tryz.checked os 4 .any ((OpenSpec.ofChange Rows.carryOnceSpec).preRow enc Tryz.prog Tryz.f4 Rows.carryOnceRow.domain false Rows.carryOnceRow.laid) (((OpenSpec.ofChange Rows.carryOnceSpec).at F).post enc Tryz.prog Tryz.f4 false true false false):=by
 obtain⟨places,hx⟩:=reads os enc
 refine returnsInHanded_of_row (C:=Tryz.checked) (s:=OpenSpec.ofChange Rows.carryOnceSpec) own started (by kernel_rfl) Tryz.func4
  (witness_row_at (enc:=enc) (C:=Tryz.checked) false (vI os) #[.agg #[.int .i64 0,.slice none 0 0],.int .i64 0,.agg #[.slice none 0 0,.slice none 0 0]] (by first | rfl | exact World.laidAll_os _ _ _ | exact World.layVars_os _ _ _) (by kernel_rfl) (by kernel_rfl) (by kernel_rfl)
   (OpenSpec.preRow_of_cond 8 hx (by kernel_rfl) (fun k hk=>by cases hk) (by kernel_rfl) (PI os))) ?_
 intro W base args ds gs before hval hW _ _ _ hL _ _
 exact contract H enc W base args ds gs before hval hW hL

theorem said:Rows.CarryOnceSaid :=
 OpenClaim.holds_of_cond 4 Tryz.f4 rfl rfl rfl rfl rfl rfl rfl ⟨rfl,rfl,rfl,rfl,rfl⟩ rfl rfl rfl rfl rfl (by kernel_rfl) Tryz.func4 (by kernel_rfl)
  (of_decide_eq_true (by kernel_rfl)) (by unfold Func.isWrapper; first | (rw [if_pos (by decide +kernel)]; kernel_rfl) | (rw [if_neg (by decide +kernel)]; exact⟨rfl,rfl⟩))
  (fun os started H enc _ F=>by rw [OpenClaim.pre_eq_preRow]; exact lifted os started H enc F)

end Go.Proofs.YtkcfgbddlpomgaaGreat.carryOnce
