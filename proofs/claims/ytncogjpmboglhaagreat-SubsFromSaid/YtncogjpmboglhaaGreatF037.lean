/-
  The document's own B. Conditions as told.
-/
import Derived.Test.YtncogjpmboglhaaGreatF036
import Derived.Test.YtncogjpmboglhaaGreatF022
import Derived.Test.YtncogjpmboglhaaGreatF001
import Derived.Deep.RegionWith
import Derived.BigRegion
set_option maxRecDepth 100000
set_option maxHeartbeats 64000000
namespace Go.Proofs.YtncogjpmboglhaaGreat.Rl
open Go.RowKit Go.Sort Pu Rw Pr Va
theorem rboth_tt (n:ByteArray) (s t:ByteArray) (w:World):Calls Tryz.prog 157 #[cv (r5 (n,(.tx s))),cv (r5 (n,(.tx t)))] w (RBQ n (bothK (.tx s) (.tx t)) w):=by
 obtain⟨ba,bb,bz,hb⟩:=boxR w (r5 (n,(.tx s))) (r5 (n,(.tx t))) (⟨#[]⟩,0,0,0,⟨#[]⟩)
 have B:=Lib.hid hb
 have BA:=Lib.hid ba
 have BB:=Lib.hid bb
 have BZ:=Lib.hid bz
 obtain⟨q,hq⟩:∃ q,holdsK (.tx t) (true,0,s)=q:=⟨_,rfl⟩
 have HR:=Lib.hid (show bothK (.tx s) (.tx t)=if q=true then some (.tx s) else none by rw [← hq]; rw [hold_tx]; simp only [bothK,beq_iff_eq])
 have HC:=Lib.hid (fun W=>rholds_any (n,.tx t) true 0 s W)
 simp only [hq] at HC
 generalize bothK (.tx s) (.tx t)=r at *
 clear ba bb bz hb hq
 simp only [r5,kN,kLo,kHi,kT] at *
 go_enter Tryz.func157,Tryz.ntmps157
 go_wp2_with fail
 go_region_with (go_at_call 158; refine (HC.out _).mono ?_; rintro e w3 ⟨rfl,hb3⟩; have ZB:=Lib.hid (BZ.out.drew.on hb3); have AB:=Lib.hid (BA.out.drew.on hb3); have DB:=Lib.hid (BB.out.drew.on hb3); obtain⟨z0,z1,z2,z3,z4⟩:=box_five ZB.out; obtain⟨a0,a1,a2,a3,a4⟩:=box_five AB.out; obtain⟨d0,d1,d2,d3,d4⟩:=box_five DB.out; have fz:=fun k=>ZB.out.fr k; simp only at z0 z1 z2 z3 z4 a0 a1 a2 a3 a4 d0 d1 d2 d3 d4)
 all_goals try simp only [Exit.then]
 all_goals try apply_assumption
 all_goals try go_wp2
 all_goals refine bodyPost_ret (v:=.tuple #[cv (r5 (n,(.tx s))),.bool q]) (by simp [results,Tryz.results157,go_sem,z0,z1,z2,z3,z4,r5,kN,kLo,kHi,kT]) rfl ?_
 all_goals exact rbq_same HR.out rfl (below_five (B.out.drew.trans (hb3.mono B.out.drew.size)) (w.heap.size+1+1) (by omega) _ _ _ _ _)
theorem rboth_tp (n:ByteArray) (s t:ByteArray) (w:World):Calls Tryz.prog 157 #[cv (r5 (n,(.tx s))),cv (r5 (n,(.pr t)))] w (RBQ n (bothK (.tx s) (.pr t)) w):=by
 obtain⟨ba,bb,bz,hb⟩:=boxR w (r5 (n,(.tx s))) (r5 (n,(.pr t))) (⟨#[]⟩,0,0,0,⟨#[]⟩)
 have B:=Lib.hid hb
 have BA:=Lib.hid ba
 have BB:=Lib.hid bb
 have BZ:=Lib.hid bz
 obtain⟨q,hq⟩:∃ q,holdsK (.pr t) (true,0,s)=q:=⟨_,rfl⟩
 have HR:=Lib.hid (show bothK (.tx s) (.pr t)=if q=true then some (.tx s) else none by rw [← hq]; rw [hold_pr]; rfl)
 have HC:=Lib.hid (fun W=>rholds_any (n,.pr t) true 0 s W)
 simp only [hq] at HC
 generalize bothK (.tx s) (.pr t)=r at *
 clear ba bb bz hb hq
 simp only [r5,kN,kLo,kHi,kT] at *
 go_enter Tryz.func157,Tryz.ntmps157
 go_wp2_with fail
 go_region_with (go_at_call 158; refine (HC.out _).mono ?_; rintro e w3 ⟨rfl,hb3⟩; have ZB:=Lib.hid (BZ.out.drew.on hb3); have AB:=Lib.hid (BA.out.drew.on hb3); have DB:=Lib.hid (BB.out.drew.on hb3); obtain⟨z0,z1,z2,z3,z4⟩:=box_five ZB.out; obtain⟨a0,a1,a2,a3,a4⟩:=box_five AB.out; obtain⟨d0,d1,d2,d3,d4⟩:=box_five DB.out; have fz:=fun k=>ZB.out.fr k; simp only at z0 z1 z2 z3 z4 a0 a1 a2 a3 a4 d0 d1 d2 d3 d4)
 all_goals try simp only [Exit.then]
 all_goals try apply_assumption
 all_goals try go_wp2
 all_goals refine bodyPost_ret (v:=.tuple #[cv (r5 (n,(.tx s))),.bool q]) (by simp [results,Tryz.results157,go_sem,z0,z1,z2,z3,z4,r5,kN,kLo,kHi,kT]) rfl ?_
 all_goals exact rbq_same HR.out rfl (below_five (B.out.drew.trans (hb3.mono B.out.drew.size)) (w.heap.size+1+1) (by omega) _ _ _ _ _)
theorem rboth_pt (n:ByteArray) (s t:ByteArray) (w:World):Calls Tryz.prog 157 #[cv (r5 (n,(.pr s))),cv (r5 (n,(.tx t)))] w (RBQ n (bothK (.pr s) (.tx t)) w):=by
 obtain⟨ba,bb,bz,hb⟩:=boxR w (r5 (n,(.pr s))) (r5 (n,(.tx t))) (⟨#[]⟩,0,0,0,⟨#[]⟩)
 have B:=Lib.hid hb
 have BA:=Lib.hid ba
 have BB:=Lib.hid bb
 have BZ:=Lib.hid bz
 obtain⟨q,hq⟩:∃ q,holdsK (.pr s) (true,0,t)=q:=⟨_,rfl⟩
 have HR:=Lib.hid (show bothK (.pr s) (.tx t)=if q=true then some (.tx t) else none by rw [← hq]; rw [hold_pr]; rfl)
 have HC:=Lib.hid (fun W=>rholds_any (n,.pr s) true 0 t W)
 simp only [hq] at HC
 generalize bothK (.pr s) (.tx t)=r at *
 clear ba bb bz hb hq
 simp only [r5,kN,kLo,kHi,kT] at *
 go_enter Tryz.func157,Tryz.ntmps157
 go_wp2_with fail
 go_region_with (go_at_call 158; refine (HC.out _).mono ?_; rintro e w3 ⟨rfl,hb3⟩; have ZB:=Lib.hid (BZ.out.drew.on hb3); have AB:=Lib.hid (BA.out.drew.on hb3); have DB:=Lib.hid (BB.out.drew.on hb3); obtain⟨z0,z1,z2,z3,z4⟩:=box_five ZB.out; obtain⟨a0,a1,a2,a3,a4⟩:=box_five AB.out; obtain⟨d0,d1,d2,d3,d4⟩:=box_five DB.out; have fz:=fun k=>ZB.out.fr k; simp only at z0 z1 z2 z3 z4 a0 a1 a2 a3 a4 d0 d1 d2 d3 d4)
 all_goals try simp only [Exit.then]
 all_goals try apply_assumption
 all_goals try go_wp2
 all_goals refine bodyPost_ret (v:=.tuple #[cv (r5 (n,(.tx t))),.bool q]) (by simp [results,Tryz.results157,go_sem,z0,z1,z2,z3,z4,r5,kN,kLo,kHi,kT]) rfl ?_
 all_goals exact rbq_same HR.out rfl (below_five (B.out.drew.trans (hb3.mono B.out.drew.size)) (w.heap.size+1+1) (by omega) _ _ _ _ _)
end Go.Proofs.YtncogjpmboglhaaGreat.Rl
