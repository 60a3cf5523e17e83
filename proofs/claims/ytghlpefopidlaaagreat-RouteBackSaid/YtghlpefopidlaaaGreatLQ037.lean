/-
  The document's own B. Conditions as told.
-/
import Derived.Test.YtghlpefopidlaaaGreatLQ015
set_option maxRecDepth 100000
set_option maxHeartbeats 64000000
open Go.Lib renaming hid->D
namespace Go.Proofs.YtghlpefopidlaaaGreat.Rl
open Go.RowKit Go.Sort Pu Rw Pr Va
theorem Zb (n:ByteArray) (s t:ByteArray) (w:World) (h:t.size<=s.size):Calls Tryz.prog 163 #[cv (r5 (n,(.pr s))),cv (r5 (n,(.pr t)))] w (Qi n (fH (.pr s) (.pr t)) w):=by
 obtain⟨ba,bb,bz,hb⟩:=Kh w (r5 (n,(.pr s))) (r5 (n,(.pr t))) (⟨#[]⟩,0,0,0,⟨#[]⟩);have B:=D hb;have a6:=D ba;have a8:=D bb;have aE:=D bz;obtain⟨q,hq⟩:∃ q,pfx t s=q:=⟨_,rfl⟩;have b9:=D (show fH (.pr s) (.pr t)=if q=true then some (.pr s) else none by rw [<- hq]; exact ajM h);have T:=D (fun W=>(qH s t W).mono (fun e w' (h:e=.returned (.bool (pfx t s))/\w'=W)=>(show e=.returned (.bool (pfx t s))/\Below W.heap.size W w' from ⟨h.1,h.2 ▸ Below.refl _ _⟩)));simp only [hq] at T;have e1:decide ((t.size:Int)<=(s.size:Int))=true:=by simp; omega
 have e2:(t.size:Int)<=(s.size:Int):=by omega
 generalize fH (.pr s) (.pr t)=r at *;clear ba bb bz hb hq;simp only [r5,kN,kH,kI,kT] at *;go_enter Tryz.func163,Tryz.ntmps163;go_wp2_with fail
 go_region_with (go_at_call 184; refine (T.out _).mono ?_; rintro e w3 ⟨rfl,hb3⟩; have a5:=D (aE.out.drew.on hb3); have a7:=D (a6.out.drew.on hb3); have bJ:=D (a8.out.drew.on hb3); obtain⟨z0,z1,z2,z3,z4⟩:=fG a5.out; obtain⟨a0,a1,a2,a3,a4⟩:=fG a7.out; obtain⟨d0,d1,d2,d3,d4⟩:=fG bJ.out; have fz:=fun k=>a5.out.fr k; simp only at z0 z1 z2 z3 z4 a0 a1 a2 a3 a4 d0 d1 d2 d3 d4)
 all_goals try simp only [Exit.then]
 all_goals try apply_assumption
 all_goals try go_wp2
 all_goals refine bodyPost_ret (v:=.tuple #[cv (r5 (n,(.pr s))),.bool q]) (by simp [results,Tryz.results163,go_sem,z0,z1,z2,z3,z4,r5,kN,kH,kI,kT]) rfl ?_
 all_goals exact rY b9.out rfl (iR (B.out.drew.trans (hb3.mono B.out.drew.size)) (w.heap.size+1+1) (by omega) _ _ _ _ _)
theorem Zc (n:ByteArray) (s t:ByteArray) (w:World) (h:¬ t.size<=s.size):Calls Tryz.prog 163 #[cv (r5 (n,(.pr s))),cv (r5 (n,(.pr t)))] w (Qi n (fH (.pr s) (.pr t)) w):=by
 obtain⟨ba,bb,bz,hb⟩:=Kh w (r5 (n,(.pr s))) (r5 (n,(.pr t))) (⟨#[]⟩,0,0,0,⟨#[]⟩);have B:=D hb;have a6:=D ba;have a8:=D bb;have aE:=D bz;obtain⟨q,hq⟩:∃ q,pfx s t=q:=⟨_,rfl⟩;have b9:=D (show fH (.pr s) (.pr t)=if q=true then some (.pr t) else none by rw [<- hq]; exact ajN h);have T:=D (fun W=>(qH t s W).mono (fun e w' (h:e=.returned (.bool (pfx s t))/\w'=W)=>(show e=.returned (.bool (pfx s t))/\Below W.heap.size W w' from ⟨h.1,h.2 ▸ Below.refl _ _⟩)));simp only [hq] at T;have e1:decide ((t.size:Int)<=(s.size:Int))=false:=by simp; omega
 have e2:¬ ((t.size:Int)<=(s.size:Int)):=by omega
 generalize fH (.pr s) (.pr t)=r at *;clear ba bb bz hb hq;simp only [r5,kN,kH,kI,kT] at *;go_enter Tryz.func163,Tryz.ntmps163;go_wp2_with fail
 go_region_with (go_at_call 184; refine (T.out _).mono ?_; rintro e w3 ⟨rfl,hb3⟩; have a5:=D (aE.out.drew.on hb3); have a7:=D (a6.out.drew.on hb3); have bJ:=D (a8.out.drew.on hb3); obtain⟨z0,z1,z2,z3,z4⟩:=fG a5.out; obtain⟨a0,a1,a2,a3,a4⟩:=fG a7.out; obtain⟨d0,d1,d2,d3,d4⟩:=fG bJ.out; have fz:=fun k=>a5.out.fr k; simp only at z0 z1 z2 z3 z4 a0 a1 a2 a3 a4 d0 d1 d2 d3 d4)
 all_goals try simp only [Exit.then]
 all_goals try apply_assumption
 all_goals try go_wp2
 all_goals refine bodyPost_ret (v:=.tuple #[cv (r5 (n,(.pr t))),.bool q]) (by simp [results,Tryz.results163,go_sem,z0,z1,z2,z3,z4,r5,kN,kH,kI,kT]) rfl ?_
 all_goals exact rY b9.out rfl (iR (B.out.drew.trans (hb3.mono B.out.drew.size)) (w.heap.size+1+1) (by omega) _ _ _ _ _)
theorem Zd (n:ByteArray) (a b c d:Int) (w:World):Calls Tryz.prog 163 #[cv (r5 (n,(.rg a b))),cv (r5 (n,(.rg c d)))] w (Qi n (fH (.rg a b) (.rg c d)) w):=by
 have R:=D (show fH (.rg a b) (.rg c d)=if max a c<=min b d then some (.rg (max a c) (min b d)) else none from rfl);have B:=D (Kh w (r5 (n,(.rg a b))) (r5 (n,(.rg c d))) (⟨#[]⟩,0,0,0,⟨#[]⟩)).2.2.2;generalize fH (.rg a b) (.rg c d)=r at *;simp only [r5,kN,kH,kI,kT] at *;go_enter Tryz.func163,Tryz.ntmps163;go_wp2_with fail
 go_region
 all_goals simp only [Exit.then]
 all_goals apply_assumption
 have e1:(if a<c then c else a)=max a c:=by split <;> omega
 have e2:(if d<b then d else b)=min b d:=by split <;> omega
 try rw [e1]
 try rw [e2]
 clear e1 e2;generalize max a c=M at R ⊢;generalize min b d=N at R ⊢;have T:=D (show r=if decide (M<=N)=true then some (.rg M N) else none by rw [R.out]; simp);clear R;go_wp2_with fail
 go_region
 all_goals try simp only [Exit.then]
 all_goals try apply_assumption
 all_goals try go_wp2
 all_goals refine bodyPost_ret (v:=.tuple #[cv (r5 (n,(.rg M N))),.bool (decide (M<=N))]) (by simp [results,Tryz.results163,go_sem,r5,kN,kH,kI,kT]) rfl ?_
 all_goals refine rY T.out rfl ?_
 all_goals first
  | exact (b3 w _ _ _).drew.drew
  | exact (b3 w _ _ _).drew
  | exact (b3 w _ _ _)
end Go.Proofs.YtghlpefopidlaaaGreat.Rl
