/-
  The document's own B. Conditions as told.
-/
import Derived.Test.YtmklifheakemeaaGreatLQ018
set_option maxRecDepth 100000
set_option maxHeartbeats 64000000
open Go.Lib renaming hid->D
namespace Go.Proofs.YtmklifheakemeaaGreat.Rl
open Go.RowKit Go.Sort Pu Rw Pr Va
theorem M8 (n:ByteArray) (s t:ByteArray) (w:World):Calls Tryz.prog 152 #[cv (r5 (n,(.tx s))),cv (r5 (n,(.tx t)))] w (Gh n (eX (.tx s) (.tx t)) w):=by
 obtain⟨ba,bb,bz,hb⟩:=Bf w (r5 (n,(.tx s))) (r5 (n,(.tx t))) (⟨#[]⟩,0,0,0,⟨#[]⟩);have B:=D hb;have BA:=D ba;have BB:=D bb;have BZ:=D bz;obtain⟨q,hq⟩:∃ q,dR (.tx t) (true,0,s)=q:=⟨_,rfl⟩;have HR:=D (show eX (.tx s) (.tx t)=if q=true then some (.tx s) else none by rw [<- hq]; rw [kL]; simp only [eX,beq_iff_eq]);have HC:=D (fun W=>qy (n,.tx t) true 0 s W);simp only [hq] at HC;generalize eX (.tx s) (.tx t)=r at *;clear ba bb bz hb hq;simp only [r5,kN,iJ,iK,kT] at *;go_enter Tryz.func152,Tryz.ntmps152;go_wp2_with fail
 go_region_with (go_at_call 172; refine (HC.out _).mono ?_; rintro e w3 ⟨rfl,hb3⟩; have ZB:=D (BZ.out.drew.on hb3); have AB:=D (BA.out.drew.on hb3); have DB:=D (BB.out.drew.on hb3); obtain⟨z0,z1,z2,z3,z4⟩:=eH ZB.out; obtain⟨a0,a1,a2,a3,a4⟩:=eH AB.out; obtain⟨d0,d1,d2,d3,d4⟩:=eH DB.out; have fz:=fun k=>ZB.out.fr k; simp only at z0 z1 z2 z3 z4 a0 a1 a2 a3 a4 d0 d1 d2 d3 d4)
 all_goals try simp only [Exit.then]
 all_goals try apply_assumption
 all_goals try go_wp2
 all_goals refine bodyPost_ret (v:=.tuple #[cv (r5 (n,(.tx s))),.bool q]) (by simp [results,Tryz.results152,go_sem,z0,z1,z2,z3,z4,r5,kN,iJ,iK,kT]) rfl ?_
 all_goals exact mO HR.out rfl (gL (B.out.drew.trans (hb3.mono B.out.drew.size)) (w.heap.size+1+1) (by omega) _ _ _ _ _)
theorem M9 (n:ByteArray) (s t:ByteArray) (w:World):Calls Tryz.prog 152 #[cv (r5 (n,(.tx s))),cv (r5 (n,(.pr t)))] w (Gh n (eX (.tx s) (.pr t)) w):=by
 obtain⟨ba,bb,bz,hb⟩:=Bf w (r5 (n,(.tx s))) (r5 (n,(.pr t))) (⟨#[]⟩,0,0,0,⟨#[]⟩);have B:=D hb;have BA:=D ba;have BB:=D bb;have BZ:=D bz;obtain⟨q,hq⟩:∃ q,dR (.pr t) (true,0,s)=q:=⟨_,rfl⟩;have HR:=D (show eX (.tx s) (.pr t)=if q=true then some (.tx s) else none by rw [<- hq]; rw [jM]; rfl);have HC:=D (fun W=>qy (n,.pr t) true 0 s W);simp only [hq] at HC;generalize eX (.tx s) (.pr t)=r at *;clear ba bb bz hb hq;simp only [r5,kN,iJ,iK,kT] at *;go_enter Tryz.func152,Tryz.ntmps152;go_wp2_with fail
 go_region_with (go_at_call 172; refine (HC.out _).mono ?_; rintro e w3 ⟨rfl,hb3⟩; have ZB:=D (BZ.out.drew.on hb3); have AB:=D (BA.out.drew.on hb3); have DB:=D (BB.out.drew.on hb3); obtain⟨z0,z1,z2,z3,z4⟩:=eH ZB.out; obtain⟨a0,a1,a2,a3,a4⟩:=eH AB.out; obtain⟨d0,d1,d2,d3,d4⟩:=eH DB.out; have fz:=fun k=>ZB.out.fr k; simp only at z0 z1 z2 z3 z4 a0 a1 a2 a3 a4 d0 d1 d2 d3 d4)
 all_goals try simp only [Exit.then]
 all_goals try apply_assumption
 all_goals try go_wp2
 all_goals refine bodyPost_ret (v:=.tuple #[cv (r5 (n,(.tx s))),.bool q]) (by simp [results,Tryz.results152,go_sem,z0,z1,z2,z3,z4,r5,kN,iJ,iK,kT]) rfl ?_
 all_goals exact mO HR.out rfl (gL (B.out.drew.trans (hb3.mono B.out.drew.size)) (w.heap.size+1+1) (by omega) _ _ _ _ _)
theorem Na (n:ByteArray) (s t:ByteArray) (w:World):Calls Tryz.prog 152 #[cv (r5 (n,(.pr s))),cv (r5 (n,(.tx t)))] w (Gh n (eX (.pr s) (.tx t)) w):=by
 obtain⟨ba,bb,bz,hb⟩:=Bf w (r5 (n,(.pr s))) (r5 (n,(.tx t))) (⟨#[]⟩,0,0,0,⟨#[]⟩);have B:=D hb;have BA:=D ba;have BB:=D bb;have BZ:=D bz;obtain⟨q,hq⟩:∃ q,dR (.pr s) (true,0,t)=q:=⟨_,rfl⟩;have HR:=D (show eX (.pr s) (.tx t)=if q=true then some (.tx t) else none by rw [<- hq]; rw [jM]; rfl);have HC:=D (fun W=>qy (n,.pr s) true 0 t W);simp only [hq] at HC;generalize eX (.pr s) (.tx t)=r at *;clear ba bb bz hb hq;simp only [r5,kN,iJ,iK,kT] at *;go_enter Tryz.func152,Tryz.ntmps152;go_wp2_with fail
 go_region_with (go_at_call 172; refine (HC.out _).mono ?_; rintro e w3 ⟨rfl,hb3⟩; have ZB:=D (BZ.out.drew.on hb3); have AB:=D (BA.out.drew.on hb3); have DB:=D (BB.out.drew.on hb3); obtain⟨z0,z1,z2,z3,z4⟩:=eH ZB.out; obtain⟨a0,a1,a2,a3,a4⟩:=eH AB.out; obtain⟨d0,d1,d2,d3,d4⟩:=eH DB.out; have fz:=fun k=>ZB.out.fr k; simp only at z0 z1 z2 z3 z4 a0 a1 a2 a3 a4 d0 d1 d2 d3 d4)
 all_goals try simp only [Exit.then]
 all_goals try apply_assumption
 all_goals try go_wp2
 all_goals refine bodyPost_ret (v:=.tuple #[cv (r5 (n,(.tx t))),.bool q]) (by simp [results,Tryz.results152,go_sem,z0,z1,z2,z3,z4,r5,kN,iJ,iK,kT]) rfl ?_
 all_goals exact mO HR.out rfl (gL (B.out.drew.trans (hb3.mono B.out.drew.size)) (w.heap.size+1+1) (by omega) _ _ _ _ _)
end Go.Proofs.YtmklifheakemeaaGreat.Rl
