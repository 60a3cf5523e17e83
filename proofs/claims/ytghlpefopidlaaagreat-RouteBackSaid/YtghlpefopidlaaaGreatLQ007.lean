/-
  Operations of a regi. Conditions as told.
-/
import Derived.Test.YtghlpefopidlaaaGreatLQ004
import Derived.IntWalk
import Derived.Test.YtghlpefopidlaaaGreatLQ002
set_option maxRecDepth 100000
set_option maxHeartbeats 64000000
namespace Go.Proofs.YtghlpefopidlaaaGreat
namespace Rg
open Go.RowKit
theorem jg {P:Program} (ρ:Operand->Value) (o:Oper) (t:TypeId) (parts:Array (Nat×Operand)) (ho:o.op=.build t parts) {ps:Array (Nat×Value)} (hp:parts.map (fun x=>(x.1,ρ x.2))=ps) {v:Value} {w:World} (hr:(Instr.build t ps).run P w=.ok v w) :
  (execOp ρ o).run P w=.ok (.value v) w:=by
 subst hp;simp [execOp,ho,hr,Result.andThen]
theorem Ws {P:Program} (ρ:Operand->Value) (o:Oper) (t:TypeId) (x y:Operand) (ho:o.op=.store t x y) {w w':World} (hr:(Instr.storeAt t (ρ x) (ρ y)).run P w=.ok () w') :
  (execOp ρ o).run P w=.ok .skip w':=by
 simp [execOp,ho,hr,Result.andThen]
end Rg
namespace Nm
def hor (l:List UInt8):Int:=l.foldl (fun h b=>h * 256+(b.toNat:Int)) 0
def qO (l:List UInt8):Int:=IntKind.i64.wrap (hor l)
end Nm
namespace Pr
open Go.RowKit Go.ChangeShapes Go.WideShapes In
theorem Wt:Tryz.prog.cellsOf 52=2:=by kernel_rfl
theorem P7:Tryz.prog.cellsOf 24=1:=by kernel_rfl
theorem Tw {H:Type} {enc:TypeId×Value->H} {W:World} {r:Reach} {b0:Nat} {sp:Nat->Bool} {held:Bool} {v:Value} {d:DataW H} {ps:List MemPlace}
  (hval:Value.okWide Tryz.prog W r b0 52 v) (hd:DataW.Trod enc Tryz.prog W 0 sp held 52 v d ps) :
  ∃ (hv vv:Value) (has vals:List Int),v=.agg #[hv,vv]/\has.length<=maxLen/\vals.length<=maxLen/\kQ W hv has/\kQ W vv vals:=by
 obtain⟨cs,rfl,hsz⟩:=okWide_struct Tryz.underlying52 hval;obtain⟨fuel,hf⟩:=hd;obtain⟨xs,n,_,_,_,hxl,hx⟩:=DataW.trod_struct Tryz.underlying52 hf;rw [Wt] at hsz;obtain⟨l⟩:=cs
 match l,hsz with
 | [c0,c1],_ =>
  have f0:DataW.trod enc Tryz.prog W 0 sp held n 24 (([c0,c1].drop 0).take (Tryz.prog.cellsOf 24))=xs[0]?:=hx 0 _ rfl;have f1:DataW.trod enc Tryz.prog W 0 sp held n 24 (([c0,c1].drop 1).take (Tryz.prog.cellsOf 24))=xs[1]?:=hx 1 _ rfl;have ajA:xs.length=2:=hxl;simp only [P7,List.drop_zero,List.drop_succ_cons,List.take_succ_cons,List.take_zero] at f0 f1;rw [List.getElem?_eq_getElem (by omega)] at f0 f1;obtain⟨has,h1,h2⟩:=Bc f0;obtain⟨vals,h3,h4⟩:=Bc f1;exact⟨c0,c1,has,vals,rfl,h1,h3,h2,h4⟩
end Pr
end Go.Proofs.YtghlpefopidlaaaGreat
