/-
  The document's own M. Conditions as told.
-/
import Derived.Test.YtncogjpmboglhaaGreatF040
import Derived.Test.YtncogjpmboglhaaGreatF018
set_option maxRecDepth 100000
set_option maxHeartbeats 64000000
namespace Go.Proofs.YtncogjpmboglhaaGreat.Rl
open Go.RowKit Go.Sort Pu Rw Pr Va
theorem both_runs {W:World} {av_ bv:Value} {a b:List Cn} (ha:RowC W av_ (a.map r5)) (hb:RowC W bv (b.map r5)) (la:a.length≤5) (lb:b.length≤5) :
  ∃ v1 w1 v2 w2,(Builtin.append_ #[39,39] 39 #[.slice (some ⟨W.heap.size,0,none⟩) 0 0,av_]).run Tryz.prog (W.alloc (.cells #[] 47))=.ok v1 w1 ∧
   (Builtin.append_ #[39,39] 39 #[v1,bv]).run Tryz.prog w1=.ok v2 w2∧RowC w2 v2 ((a++b).map r5)∧Below W.heap.size W w2:=by
 have b0:=(Below.refl W.heap.size W).alloc (Nat.le_refl _) (.cells #[] 47)
 obtain⟨v1,w1,r1,o1,g1⟩:=appC W.heap.size (ownC_nil W) (ha.on b0) (by simp) (by rw [List.length_map]; omega) (by simp)
 have b1:=b0.grown g1 b0.size (fun j hj=>((ownC_nil W).lt j hj).1)
 obtain⟨v2,w2,r2,o2,g2⟩:=appC W.heap.size o1 (hb.on b1) (by simp; omega) (by rw [List.length_map]; omega) b1.size
 have b2:=b1.grown g2 b1.size (fun j hj=>(o1.lt j hj).1)
 exact⟨v1,w1,v2,w2,r1,r2,by rw [List.map_append]; exact Row.of_own (by simpa using o2),b2⟩
theorem rmeetsR_any (av_ bv:Value) (a b:List Cn) (w:World) (ha:RowC w av_ (a.map r5)) (hb:RowC w bv (b.map r5)) (na:NF a) (nb:NF b):Calls Tryz.prog 95 #[av_,bv] w fun e w'=>e=.returned (.bool (meetsB a b))∧Below w.heap.size w w':=by
 obtain⟨v1,w1,v2,w2,r1,r2,ro,b2⟩:=both_runs ha hb na.five nb.five
 have B2:=Lib.hid b2
 have MK:=Lib.hid (rmake_any v2 (a++b) w2 ro (by have:=na.five; have:=nb.five; simp; omega))
 have RB:=Lib.hid (ref_both (b:=b) na.rise)
 have MR:=Lib.hid (meetsB_R (b:=b) na.rise na.five)
 rw [RB.out] at MK
 generalize foldR a b=res at *
 generalize meetsB a b=r at *
 clear ha hb na nb ro b2 RB
 go_enter Tryz.func95,Tryz.ntmps95
 go_wp2_with (first | (at_builtin; refine wpList_append_run rfl _ _ 39 rfl rfl rfl r1 ?_) | (at_builtin; refine wpList_append_run rfl _ _ 39 rfl rfl rfl r2 ?_) | fail)
 refine MK.out.mono ?_
 rintro e3 w3 ⟨hb3,h3⟩
 have B3:=Lib.hid (B2.out.trans (hb3.mono B2.out.size))
 clear hb3 MK r1 r2
 rcases res with _|p
 ·have R:=Lib.hid (show r=false from MR.out)
  obtain rfl:=h3
  clear MR
  go_wp2
  go_ret
  exact⟨ret_bool R.out.symm,B3.out⟩
 ·obtain⟨v,rfl,hp⟩:=h3
  obtain⟨po,pc,rfl⟩:=hp.len
  have R:=Lib.hid (show r=decide (p.length≤5) from MR.out)
  rw [List.length_map]
  clear MR hp
  by_cases h5:p.length≤5
  ·have d1:decide ((p.length:Int)≤5)=true:=by simp; omega
   have R2:=Lib.hid (show r=true by rw [R.out]; simpa using h5)
   clear R h5
   go_wp2
   go_ret
   exact⟨ret_bool R2.out.symm,B3.out⟩
  ·have d1:decide ((p.length:Int)≤5)=false:=by simp; omega
   have R2:=Lib.hid (show r=false by rw [R.out]; simpa using h5)
   clear R h5
   go_wp2
   go_ret
   exact⟨ret_bool R2.out.symm,B3.out⟩
end Go.Proofs.YtncogjpmboglhaaGreat.Rl
