/-
  The document's own B. Conditions as told.
-/
import Derived.Test.YtghlpefopidlaaaGreatLQ015
set_option maxRecDepth 100000
set_option maxHeartbeats 64000000
open Go.Lib renaming hid->D
namespace Go.Proofs.YtghlpefopidlaaaGreat.Rl
open Go.RowKit Go.Sort Pu Rw Pr Va
theorem Y7 (n:ByteArray) (s t:ByteArray) (w:World):Calls Tryz.prog 163 #[cv (r5 (n,(.tx s))),cv (r5 (n,(.tx t)))] w (Qi n (fH (.tx s) (.tx t)) w):=by
 obtain⟨ba,bb,bz,hb⟩:=Kh w (r5 (n,(.tx s))) (r5 (n,(.tx t))) (⟨#[]⟩,0,0,0,⟨#[]⟩);have B:=D hb;have a6:=D ba;have a8:=D bb;have aE:=D bz;obtain⟨q,hq⟩:∃ q,eP (.tx t) (true,0,s)=q:=⟨_,rfl⟩;have b9:=D (show fH (.tx s) (.tx t)=if q=true then some (.tx s) else none by rw [<- hq]; rw [oC]; simp only [fH,beq_iff_eq]);have T:=D (fun W=>wZ (n,.tx t) true 0 s W);simp only [hq] at T;generalize fH (.tx s) (.tx t)=r at *;clear ba bb bz hb hq;simp only [r5,kN,kH,kI,kT] at *;go_enter Tryz.func163,Tryz.ntmps163;go_wp2_with fail
 go_region_with (go_at_call 183; refine (T.out _).mono ?_; rintro e w3 ⟨rfl,hb3⟩; have a5:=D (aE.out.drew.on hb3); have a7:=D (a6.out.drew.on hb3); have bJ:=D (a8.out.drew.on hb3); obtain⟨z0,z1,z2,z3,z4⟩:=fG a5.out; obtain⟨a0,a1,a2,a3,a4⟩:=fG a7.out; obtain⟨d0,d1,d2,d3,d4⟩:=fG bJ.out; have fz:=fun k=>a5.out.fr k; simp only at z0 z1 z2 z3 z4 a0 a1 a2 a3 a4 d0 d1 d2 d3 d4)
 all_goals try simp only [Exit.then]
 all_goals try apply_assumption
 all_goals try go_wp2
 all_goals refine bodyPost_ret (v:=.tuple #[cv (r5 (n,(.tx s))),.bool q]) (by simp [results,Tryz.results163,go_sem,z0,z1,z2,z3,z4,r5,kN,kH,kI,kT]) rfl ?_
 all_goals exact rY b9.out rfl (iR (B.out.drew.trans (hb3.mono B.out.drew.size)) (w.heap.size+1+1) (by omega) _ _ _ _ _)
theorem Y9 (n:ByteArray) (s t:ByteArray) (w:World):Calls Tryz.prog 163 #[cv (r5 (n,(.tx s))),cv (r5 (n,(.pr t)))] w (Qi n (fH (.tx s) (.pr t)) w):=by
 obtain⟨ba,bb,bz,hb⟩:=Kh w (r5 (n,(.tx s))) (r5 (n,(.pr t))) (⟨#[]⟩,0,0,0,⟨#[]⟩);have B:=D hb;have a6:=D ba;have a8:=D bb;have aE:=D bz;obtain⟨q,hq⟩:∃ q,eP (.pr t) (true,0,s)=q:=⟨_,rfl⟩;have b9:=D (show fH (.tx s) (.pr t)=if q=true then some (.tx s) else none by rw [<- hq]; rw [mK]; rfl);have T:=D (fun W=>wZ (n,.pr t) true 0 s W);simp only [hq] at T;generalize fH (.tx s) (.pr t)=r at *;clear ba bb bz hb hq;simp only [r5,kN,kH,kI,kT] at *;go_enter Tryz.func163,Tryz.ntmps163;go_wp2_with fail
 go_region_with (go_at_call 183; refine (T.out _).mono ?_; rintro e w3 ⟨rfl,hb3⟩; have a5:=D (aE.out.drew.on hb3); have a7:=D (a6.out.drew.on hb3); have bJ:=D (a8.out.drew.on hb3); obtain⟨z0,z1,z2,z3,z4⟩:=fG a5.out; obtain⟨a0,a1,a2,a3,a4⟩:=fG a7.out; obtain⟨d0,d1,d2,d3,d4⟩:=fG bJ.out; have fz:=fun k=>a5.out.fr k; simp only at z0 z1 z2 z3 z4 a0 a1 a2 a3 a4 d0 d1 d2 d3 d4)
 all_goals try simp only [Exit.then]
 all_goals try apply_assumption
 all_goals try go_wp2
 all_goals refine bodyPost_ret (v:=.tuple #[cv (r5 (n,(.tx s))),.bool q]) (by simp [results,Tryz.results163,go_sem,z0,z1,z2,z3,z4,r5,kN,kH,kI,kT]) rfl ?_
 all_goals exact rY b9.out rfl (iR (B.out.drew.trans (hb3.mono B.out.drew.size)) (w.heap.size+1+1) (by omega) _ _ _ _ _)
theorem Za (n:ByteArray) (s t:ByteArray) (w:World):Calls Tryz.prog 163 #[cv (r5 (n,(.pr s))),cv (r5 (n,(.tx t)))] w (Qi n (fH (.pr s) (.tx t)) w):=by
 obtain⟨ba,bb,bz,hb⟩:=Kh w (r5 (n,(.pr s))) (r5 (n,(.tx t))) (⟨#[]⟩,0,0,0,⟨#[]⟩);have B:=D hb;have a6:=D ba;have a8:=D bb;have aE:=D bz;obtain⟨q,hq⟩:∃ q,eP (.pr s) (true,0,t)=q:=⟨_,rfl⟩;have b9:=D (show fH (.pr s) (.tx t)=if q=true then some (.tx t) else none by rw [<- hq]; rw [mK]; rfl);have T:=D (fun W=>wZ (n,.pr s) true 0 t W);simp only [hq] at T;generalize fH (.pr s) (.tx t)=r at *;clear ba bb bz hb hq;simp only [r5,kN,kH,kI,kT] at *;go_enter Tryz.func163,Tryz.ntmps163;go_wp2_with fail
 go_region_with (go_at_call 183; refine (T.out _).mono ?_; rintro e w3 ⟨rfl,hb3⟩; have a5:=D (aE.out.drew.on hb3); have a7:=D (a6.out.drew.on hb3); have bJ:=D (a8.out.drew.on hb3); obtain⟨z0,z1,z2,z3,z4⟩:=fG a5.out; obtain⟨a0,a1,a2,a3,a4⟩:=fG a7.out; obtain⟨d0,d1,d2,d3,d4⟩:=fG bJ.out; have fz:=fun k=>a5.out.fr k; simp only at z0 z1 z2 z3 z4 a0 a1 a2 a3 a4 d0 d1 d2 d3 d4)
 all_goals try simp only [Exit.then]
 all_goals try apply_assumption
 all_goals try go_wp2
 all_goals refine bodyPost_ret (v:=.tuple #[cv (r5 (n,(.tx t))),.bool q]) (by simp [results,Tryz.results163,go_sem,z0,z1,z2,z3,z4,r5,kN,kH,kI,kT]) rfl ?_
 all_goals exact rY b9.out rfl (iR (B.out.drew.trans (hb3.mono B.out.drew.size)) (w.heap.size+1+1) (by omega) _ _ _ _ _)
end Go.Proofs.YtghlpefopidlaaaGreat.Rl
