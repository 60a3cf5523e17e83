/-
  An entry more, an own subscription more sends to no fewer; taken out again it is as it was: at every broker of numbers, two numbers, predicate and publication of numbers the law CarryWant answers true, and each argument reads behind the call as it read before. Conditions: none.
-/
import Derived.Test.YtkcfgbddlpomgaaGreatRows
import Derived.Test.YtkcfgbddlpomgaaGreatOQ049
import Derived.Deep.DeepHandedRow
import Derived.ChangeVars
import Derived.JoinedOf
import Derived.RowKitTokens
import Derived.LaidLaws
import Derived.LaidHandle
import Derived.Lay
import Derived.Lib.LaidTab
import Derived.Stop.Joined
import Derived.SevenTiedAt
set_option maxRecDepth 100000
set_option maxHeartbeats 64000000
namespace Go.Proofs.YtkcfgbddlpomgaaGreat.carryWant
open Go.ChangeShapes Go.WideShapes Go.ChangeAt Go.RowKit Go.ChangeMaps

theorem aeK {n:Int} (h:(Lit.int .i64 n).wf=true):-9223372036854775808≤n:=by
 have h2:(decide (IntKind.i64.min≤n) && decide (n≤IntKind.i64.max))=true:=h
 rw [Bool.and_eq_true,decide_eq_true_eq,decide_eq_true_eq,show IntKind.i64.min=-9223372036854775808 by decide,show IntKind.i64.max=9223372036854775807 by decide] at h2
 exact h2.1
theorem aeL {n:Int} (h:(Lit.int .i64 n).wf=true):n≤9223372036854775807:=by
 have h2:(decide (IntKind.i64.min≤n) && decide (n≤IntKind.i64.max))=true:=h
 rw [Bool.and_eq_true,decide_eq_true_eq,decide_eq_true_eq,show IntKind.i64.min=-9223372036854775808 by decide,show IntKind.i64.max=9223372036854775807 by decide] at h2
 exact h2.2
theorem own:ownKnob Tryz.prog.godebug=none:=by kernel_rfl
theorem handle {W:World} (_:laidMetH Tryz.prog Rows.carryWantRow.laid W):True:=trivial

theorem contract (H:Type) (enc:TypeId×Value→H) (W:World) (base:Nat) (args:Array Value) (ds gs:List (DataW H)) (before:List MemPlace)
  (hval:∀ (j:Nat) t v,Tryz.f6.params[j]?=some t→args[j]?=some v→Value.okWide Tryz.prog W .any base t v)
  (hW:DataW.Whole enc Tryz.prog Tryz.f6.params.toList Rows.carryWantSpec.vars false W args.toList ds gs before) (hL:laidMetH Tryz.prog Rows.carryWantRow.laid W) :
  Calls Tryz.prog 6 args W fun e W'=>∃ v,e=.returned v∧Rows.carryWantSpec.post enc Tryz.prog Tryz.f6 false true false false W args v W':=by
 have hW':=hW
 obtain⟨p,q,hA0,hV,rfl,hfz,hnd⟩:=hW
 have hA:DataW.TrodAll enc Tryz.prog W 0 (fun _=>true) true Tryz.f6.params.toList args.toList ds p:=hA0
 rw [Tryz.params6] at hA hval
 obtain⟨v0,vs0,d0,ds0,p0,q0,hargs,rfl,rfl,h0,r0⟩:=trodAll_cons hA
 obtain⟨v1,vs1,d1,ds1,p1,q1,rfl,rfl,rfl,h1,r1⟩:=trodAll_cons r0
 obtain⟨v2,vs2,d2,ds2,p2,q2,rfl,rfl,rfl,h2,r2⟩:=trodAll_cons r1
 obtain⟨v3,vs3,d3,ds3,p3,q3,rfl,rfl,rfl,h3,r3⟩:=trodAll_cons r2
 obtain⟨v4,vs4,d4,ds4,p4,q4,rfl,rfl,rfl,h4,r4⟩:=trodAll_cons r3
 obtain⟨rfl,rfl,rfl⟩:=trodAll_nil r4
 obtain rfl:args=#[v0,v1,v2,v3,v4]:=by cases args; simp_all
 obtain⟨rfl,rfl⟩:=trodVars_none hV
 obtain⟨z0,u0,k0,rfl,lo0,hi0,ln0,hs0⟩:=Av.Sn (hval 0 24 v0 rfl rfl) h0
 obtain⟨n1,rfl,rfl,rfl,w1⟩:=open_int Tryz.underlying3 (hval 1 3 v1 rfl rfl) h1
 obtain⟨n2,rfl,rfl,rfl,w2⟩:=open_int Tryz.underlying3 (hval 2 3 v2 rfl rfl) h2
 obtain⟨hv3,vv3,ahM,aeM,rfl,lh3,lv3,hh3,hw3⟩:=Pr.Pj (hval 3 72 v3 rfl rfl) h3
 obtain⟨x3,y3,rfl⟩:=hh3.shape
 obtain⟨s3,t3,rfl⟩:=hw3.shape
 obtain⟨hv4,vv4,ahN,aeN,rfl,lh4,lv4,hh4,hw4⟩:=At.Kc (hval 4 27 v4 rfl rfl) h4
 obtain⟨x4,y4,rfl⟩:=hh4.shape
 obtain⟨s4,t4,rfl⟩:=hw4.shape
 simp only [List.append_nil] at hW'
 have hg:=handle hL
 refine (Ca.Pk z0 u0 k0 n1 n2 x3 _ y3 s3 _ t3 ahM aeM x4 _ y4 s4 _ t4 ahN aeN W lo0 hi0 (aeK w1) (aeL w1) (aeK w2) (aeL w2) hs0 ln0 hh3 hw3 lh3 lv3 hh4 hw4 lh4 lv4).mono fun e W' ⟨he,hb⟩=>?_
 subst he
 have hc:=Ar.carry (P:=Tryz.prog) (by kernel_rfl) hb _ _ _ _ (by kernel_rfl) hA0 (fun x hx=>hW'.lt x (by first | (simp at hx; done) | simpa using hx))
 exact⟨_,rfl,_,_,_,[],_,[],hW',trodAll_cons_mk (shut_bool Tryz.underlying4 _) trodAll_mk0,hc,rfl,hb.frame _,fun h=>by cases h⟩

noncomputable def xK (os:Os):World:=World.holding Tryz.prog os ⟨#[],#[],[]⟩
theorem Sq (os:Os):laidMetH Tryz.prog Rows.carryWantRow.laid ((xK os).forCall (fun _ _=>0) ⟨#[],#[.agg #[.int .i64 0,.slice none 0 0],.int .i64 0,.int .i64 0,.agg #[.slice none 0 0,.slice none 0 0],.agg #[.slice none 0 0,.slice none 0 0]],[]⟩).memory :=
 laidMetH_of_parts (laidMet_nil _ _) (by kernel_rfl)
theorem reads (os:Os) {H:Type} (enc:TypeId×Value→H):∃ places,DataW.whole enc Tryz.prog ((xK os).forCall (fun _ _=>0) ⟨#[],#[.agg #[.int .i64 0,.slice none 0 0],.int .i64 0,.int .i64 0,.agg #[.slice none 0 0,.slice none 0 0],.agg #[.slice none 0 0,.slice none 0 0]],[]⟩).memory Tryz.f6.params.toList Rows.carryWantSpec.vars false (#[.agg #[.int .i64 0,.slice none 0 0],.int .i64 0,.int .i64 0,.agg #[.slice none 0 0,.slice none 0 0],.agg #[.slice none 0 0,.slice none 0 0]]:Array Value).toList 8=some ([.agg [.lit (.int .i64 0),.nil],.lit (.int .i64 0),.lit (.int .i64 0),.agg [.nil,.nil],.agg [.nil,.nil]],[],places) :=
 ⟨[],by kernel_rfl⟩

theorem lifted (os:Os) (started:os.Started) (H:Type) (enc:TypeId×Value→H) (F:Stop.Interp) :
  ReturnsInHanded {} Tryz.checked os 6 .any ((OpenSpec.ofChange Rows.carryWantSpec).preRow enc Tryz.prog Tryz.f6 Rows.carryWantRow.domain false Rows.carryWantRow.laid) (((OpenSpec.ofChange Rows.carryWantSpec).at F).post enc Tryz.prog Tryz.f6 false true false false):=by
 obtain⟨places,hx⟩:=reads os enc
 refine returnsInHanded_of_row (C:=Tryz.checked) (s:=OpenSpec.ofChange Rows.carryWantSpec) own started (by kernel_rfl) Tryz.func6
  (witness_row_at (enc:=enc) (C:=Tryz.checked) false (xK os) #[.agg #[.int .i64 0,.slice none 0 0],.int .i64 0,.int .i64 0,.agg #[.slice none 0 0,.slice none 0 0],.agg #[.slice none 0 0,.slice none 0 0]] (by first | rfl | exact World.laidAll_os _ _ _ | exact World.layVars_os _ _ _) (by kernel_rfl) (by kernel_rfl) (by kernel_rfl)
   (OpenSpec.preRow_of_cond 8 hx (by kernel_rfl) (fun k hk=>by cases hk) (by kernel_rfl) (Sq os))) ?_
 intro W base args ds gs before hval hW _ _ _ hL _ _
 exact contract H enc W base args ds gs before hval hW hL

theorem said:Rows.CarryWantSaid :=
 OpenClaim.holds_of_cond 6 Tryz.f6 rfl rfl rfl rfl rfl rfl rfl ⟨rfl,rfl,rfl,rfl,rfl⟩ rfl rfl rfl rfl rfl (by kernel_rfl) Tryz.func6 (by kernel_rfl)
  (of_decide_eq_true (by kernel_rfl)) (by unfold Func.isWrapper; first | (rw [if_pos (by decide +kernel)]; kernel_rfl) | (rw [if_neg (by decide +kernel)]; exact⟨rfl,rfl⟩))
  (fun os started H enc _ F=>by rw [OpenClaim.pre_eq_preRow]; exact lifted os started H enc F)

end Go.Proofs.YtkcfgbddlpomgaaGreat.carryWant
