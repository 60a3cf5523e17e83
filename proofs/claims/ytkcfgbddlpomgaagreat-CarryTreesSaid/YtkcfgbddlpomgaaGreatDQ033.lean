/-
  Same of whole number. Conditions as told.
-/
import Derived.Test.YtkcfgbddlpomgaaGreatDQ020
import Derived.Test.YtkcfgbddlpomgaaGreatDQ032
import Derived.Test.YtkcfgbddlpomgaaGreatDQ019
set_option maxRecDepth 100000
set_option maxHeartbeats 64000000
open _root_.Array renaming length_toList->ak
open _root_.Bool renaming true->aC,eq_false_or_eq_true->aJ,false->aR
open _root_.Go renaming bodyPost_ret->V,World->aA,cell_regrown->aH,Calls->aL,below_regrown->aM,Value->aO,redrawn->aW
open Go.Ending renaming returned->aI
open Go.IntKind renaming i64->U
open Go.Lib renaming hid->D
open Go.Obj renaming cells->K
open Go.Proofs.Tryz renaming prog->ah,results109->aj,ntmps109->ay,func109->aB,results139->aF,results128->aN,ntmps139->aQ,func139->aS
open Go.Value renaming string->J,int->L,bool->aD,pointer->aP,slice->aT
open Go.World.ownsRow renaming stored->Z
open _root_.Nat renaming le_refl->aK,lt_or_ge->aU,zero_le->aV
open _root_.Option renaming none->Y,some->au
open Option.some renaming inj->aG
namespace Go.Proofs.YtkcfgbddlpomgaaGreat
namespace Bk
open Go.RowKit Go.Sort Rw YtkcfgbddlpomgaaGreat.Nm
end Bk
namespace Pr
open Go.RowKit Go.Sort Pu Rw Va
theorem G9 (w:aA) (c d z:C5):dJ (((w.alloc (K (cells5 c).toArray 106)).alloc (K (cells5 d).toArray 106)).alloc (K (cells5 z).toArray 106)) w.heap.size (cells5 c).toArray 106/\dJ (((w.alloc (K (cells5 c).toArray 106)).alloc (K (cells5 d).toArray 106)).alloc (K (cells5 z).toArray 106)) (w.heap.size+1) (cells5 d).toArray 106/\dJ (((w.alloc (K (cells5 c).toArray 106)).alloc (K (cells5 d).toArray 106)).alloc (K (cells5 z).toArray 106)) (w.heap.size+1+1) (cells5 z).toArray 106/\Below w.heap.size w (((w.alloc (K (cells5 c).toArray 106)).alloc (K (cells5 d).toArray 106)).alloc (K (cells5 z).toArray 106)):=by
 obtain⟨h1,h2,h3⟩:=QT w c d;refine⟨h1.more _,h2.more _,?_,h3.alloc h3.size _⟩;have h:=dL ((w.alloc (K (cells5 c).toArray 106)).alloc (K (cells5 d).toArray 106)) (cells5 z).toArray 106
 rwa [show ((w.alloc (K (cells5 c).toArray 106)).alloc (K (cells5 d).toArray 106)).heap.size=w.heap.size+1+1 by simp] at h
theorem eT {W:aA} {b:Nat} {c:C5} (h:dJ W b (cells5 c).toArray 106):W.cell? ⟨b,0,Y⟩=au (J c.1)/\W.cell? ⟨b,1,Y⟩=au (L U c.2.1)/\W.cell? ⟨b,2,Y⟩=au (L U c.2.2.1)/\W.cell? ⟨b,3,Y⟩=au (L U c.2.2.2.1)/\W.cell? ⟨b,4,Y⟩=au (J c.2.2.2.2):=⟨h.cell 0,h.cell 1,h.cell 2,h.cell 3,h.cell 4⟩
theorem ig {B:Nat} {W w:aA} (h:Below B W w) (g:Nat) (hB:B<=g) (v0 v1 v2 v3 v4:aO):Below B W (((((w.setCell ⟨g,0,Y⟩ v0).setCell ⟨g,1,Y⟩ v1).setCell ⟨g,2,Y⟩ v2).setCell ⟨g,3,Y⟩ v3).setCell ⟨g,4,Y⟩ v4) :=
 ((((h.setCell hB _).setCell hB _).setCell hB _).setCell hB _).setCell hB _
theorem Xd (na nb:ByteArray) (a b c d:Int) (w:aA):aL ah 139 #[cv (r5 (na,.rg a b)),cv (r5 (nb,.rg c d))] w (KF na (fu (.rg a b) (.rg c d)) w):=by
 obtain⟨ba,bb,bz,hb⟩:=G9 w (r5 (na,.rg a b)) (r5 (nb,.rg c d)) (⟨#[]⟩,0,0,0,⟨#[]⟩);have B:=D hb;have BA:=D ba;have BB:=D bb;have BZ:=D bz;have O:=D (Gl na nb a b c d (((w.alloc (K (cells5 (r5 (na,.rg a b))).toArray 106)).alloc (K (cells5 (r5 (nb,.rg c d))).toArray 106)).alloc (K (cells5 (⟨#[]⟩,0,0,0,⟨#[]⟩)).toArray 106)));generalize fu (.rg a b) (.rg c d)=r at *;clear ba bb bz hb;simp only [r5,kN,jk,jl,kT];go_enter aS,aQ;go_wp2_with fail;refine O.out.mono ?_;rintro e W2 ⟨⟨x,rfl,hx⟩,hb2⟩;have B2:=D (B.out.trans (hb2.mono B.out.size));have Z2:=D (BZ.out.on hb2);have X:=D hx;obtain⟨z0,z1,z2,z3,z4⟩:=eT Z2.out;have fz:=fun k=>Z2.out.fr k;simp only at z0 z1 z2 z3 z4;clear hx hb2 O B BA BB BZ;go_wp2;refine V (v:=.tuple #[cv x,aD r.isSome]) (by simp [results,aF,go_sem,z0,z1,z2,z3,z4]) rfl ?_;exact⟨⟨x,rfl,X.out⟩,ig B2.out (w.heap.size+1+1) (by omega) _ _ _ _ _⟩
theorem qJ (na nb:ByteArray) (ka kb:Kd) (w:aA) (hno:(kN ka=1/\kN kb≠1)\/kN ka≠1) (hn:na=nb) (r:Option Kd) (hr:r=if iE ka kb then au ka else if iE kb ka then au kb else Y):aL ah 139 #[cv (r5 (na,ka)),cv (r5 (nb,kb))] w (KF na r w):=by
 obtain⟨ba,bb,bz,hb⟩:=G9 w (r5 (na,ka)) (r5 (nb,kb)) (⟨#[]⟩,0,0,0,⟨#[]⟩);have B:=D hb;have BA:=D ba;have BB:=D bb;have BZ:=D bz;have I1:=D (yV (na,ka) (nb,kb) (((w.alloc (K (cells5 (r5 (na,ka))).toArray 106)).alloc (K (cells5 (r5 (nb,kb))).toArray 106)).alloc (K (cells5 (⟨#[]⟩,0,0,0,⟨#[]⟩)).toArray 106)));have I2:=D (fun W=>yV (nb,kb) (na,ka) W);obtain⟨i1,e1⟩:∃ i,iE ka kb=i:=⟨_,rfl⟩;obtain⟨i2,e2⟩:∃ i,iE kb ka=i:=⟨_,rfl⟩;simp only [e1] at I1;simp only [e2] at I2;rw [e1,e2] at hr;have HR:=D hr;have NE:=D hn;obtain⟨j1,g1⟩:∃ j,(kN ka == (1:Int))=j:=⟨_,rfl⟩;have g2:j1=aC->(kN kb == (1:Int))=aR:=fun e=>by
  subst e;rcases hno with⟨_,h⟩|h
  ·exact beq_eq_false_iff_ne.2 h
  ·exact absurd (beq_iff_eq.1 g1) h
 have G2:=D g2;clear ba bb bz hb e1 e2 hn hno g2 hr;simp only [r5] at I1 I2 ⊢;cases j1
 all_goals try have g3:=G2.out rfl
 all_goals
  clear G2;go_enter aS,aQ;go_wp2_with fail;refine I1.out.mono ?_;rintro e W2 ⟨rfl,hb2⟩;have B2:=D (B.out.trans (hb2.mono B.out.size));have Z2:=D (BZ.out.on hb2);have A2:=D (BA.out.on hb2);have D2:=D (BB.out.on hb2);obtain⟨a0,a1,a2,a3,a4⟩:=eT A2.out;obtain⟨d0,d1,d2,d3,d4⟩:=eT D2.out;obtain⟨z0,z1,z2,z3,z4⟩:=eT Z2.out;have fz:=fun k=>Z2.out.fr k;simp only [r5] at a0 a1 a2 a3 a4 d0 d1 d2 d3 d4;simp only at z0 z1 z2 z3 z4;clear hb2 B BA BB BZ I1;rcases aJ i1 with rfl|rfl
  ·go_wp2;refine V (v:=.tuple #[cv (r5 (na,ka)),aD aC]) (by simp [results,aF,go_sem,z0,z1,z2,z3,z4,r5]) rfl ?_;exact⟨⟨r5 (na,ka),by rw [HR.out]; rfl,fun k hk=>by rw [HR.out] at hk; rw [<- aG hk]⟩,ig B2.out (w.heap.size+1+1) (by omega) _ _ _ _ _⟩
  ·clear a0 a1 a2 a3 a4 d0 d1 d2 d3 d4;obtain⟨a0,a1,a2,a3,a4⟩:=eT A2.out;obtain⟨d0,d1,d2,d3,d4⟩:=eT D2.out;simp only [r5] at a0 a1 a2 a3 a4 d0 d1 d2 d3 d4;go_wp2_with fail;refine (I2.out _).mono ?_;rintro e W3 ⟨rfl,hb3⟩;have B3:=D (B2.out.trans (hb3.mono B2.out.size));have Z3:=D (Z2.out.on hb3);have D3:=D (D2.out.on hb3);clear a0 a1 a2 a3 a4 d0 d1 d2 d3 d4 z0 z1 z2 z3 z4 fz;obtain⟨d0,d1,d2,d3,d4⟩:=eT D3.out;obtain⟨z0,z1,z2,z3,z4⟩:=eT Z3.out;have fz:=fun k=>Z3.out.fr k;simp only [r5] at d0 d1 d2 d3 d4;simp only at z0 z1 z2 z3 z4;clear hb3 B2 I2 A2 D2 Z2;rcases aJ i2 with rfl|rfl
   ·go_wp2;refine V (v:=.tuple #[cv (r5 (nb,kb)),aD aC]) (by simp [results,aF,go_sem,z0,z1,z2,z3,z4,r5]) rfl ?_;exact⟨⟨r5 (nb,kb),by rw [HR.out]; rfl,fun k hk=>by rw [HR.out] at hk; rw [NE.out,<- aG hk]⟩,ig B3.out (w.heap.size+1+1) (by omega) _ _ _ _ _⟩
   ·go_wp2;refine V (v:=.tuple #[cv ((⟨#[]⟩,0,0,0,⟨#[]⟩)),aD aR]) (by simp [results,aF,go_sem,z0,z1,z2,z3,z4]) rfl ?_;exact⟨⟨(⟨#[]⟩,0,0,0,⟨#[]⟩),by rw [HR.out]; rfl,fun k hk=>by rw [HR.out] at hk; cases hk⟩,ig B3.out (w.heap.size+1+1) (by omega) _ _ _ _ _⟩
theorem Sq (a b:Cn) (w:aA) (hn:a.1=b.1):aL ah 139 #[cv (r5 a),cv (r5 b)] w (KF a.1 (fu a.2 b.2) w):=by
 obtain⟨na,ka⟩:=a;obtain⟨nb,kb⟩:=b;cases ka with
 | rg p q =>
  cases kb with
  | rg r t=>exact Xd na nb p q r t w
  | tx t=>exact qJ na nb _ _ w (Or.inl ⟨rfl,by simp [kN]⟩) hn _ (yg _ _)
  | pr t=>exact qJ na nb _ _ w (Or.inl ⟨rfl,by simp [kN]⟩) hn _ (yg _ _)
 | tx s=>exact qJ na nb _ _ w (Or.inr (by simp [kN])) hn _ (yg _ _)
 | pr s=>exact qJ na nb _ _ w (Or.inr (by simp [kN])) hn _ (yg _ _)
end Pr
namespace Rl
open Go.RowKit Go.Sort Pu Rw Pr Va
theorem pU {n:ByteArray} {r:Option Kd} {b:Bool} {k:Kd} {w w':aA} {e:Ending} (hr:r=if b=aC then au k else Y) (he:e=aI (.tuple #[cv (r5 (n,k)),aD b])) (h:Below w.heap.size w w'):KR n r w e w':=by
 subst hr he;exact aa4 b k h
theorem adH {s t:ByteArray} (h:t.size<=s.size):fu (.pr s) (.pr t)=if pfx t s=aC then au (.pr s) else Y:=by
 simp only [fu];by_cases h1:pfx s t=aC
 ·rw [if_pos h1];have e1:=(fI _ _).1 h1;have e2:s=t:=ru (e1.eq_of_length_le (by rw [ak,ak]; exact h));subst e2;rw [if_pos (nQ s)]
 ·rw [if_neg h1]
theorem adI {s t:ByteArray} (h:¬ t.size<=s.size):fu (.pr s) (.pr t)=if pfx s t=aC then au (.pr t) else Y:=by
 simp only [fu];by_cases h1:pfx s t=aC
 ·rw [if_pos h1,if_pos h1]
 ·have h2:¬ pfx t s=aC:=fun h2=>by
   have:=((fI _ _).1 h2).length_le;rw [ak,ak] at this;exact h this
  rw [if_neg h1,if_neg h1,if_neg h2]
theorem Sr (n:ByteArray) (s t:ByteArray) (w:aA):aL ah 109 #[cv (r5 (n,(.tx s))),cv (r5 (n,(.tx t)))] w (KR n (fu (.tx s) (.tx t)) w):=by
 obtain⟨ba,bb,bz,hb⟩:=G9 w (r5 (n,(.tx s))) (r5 (n,(.tx t))) (⟨#[]⟩,0,0,0,⟨#[]⟩);have B:=D hb;have BA:=D ba;have BB:=D bb;have BZ:=D bz;obtain⟨q,hq⟩:∃ q,dX (.tx t) (aC,0,s)=q:=⟨_,rfl⟩;have HR:=D (show fu (.tx s) (.tx t)=if q=aC then au (.tx s) else Y by rw [<- hq]; rw [mq]; simp only [fu,beq_iff_eq]);have HC:=D (fun W=>uf (n,.tx t) aC 0 s W);simp only [hq] at HC;generalize fu (.tx s) (.tx t)=r at *;clear ba bb bz hb hq;simp only [r5,kN,jk,jl,kT] at *;go_enter aB,ay;go_wp2_with fail
 go_region_with (go_at_call 67; refine (HC.out _).mono ?_; rintro e w3 ⟨rfl,hb3⟩; have ZB:=D (BZ.out.drew.on hb3); have AB:=D (BA.out.drew.on hb3); have DB:=D (BB.out.drew.on hb3); obtain⟨z0,z1,z2,z3,z4⟩:=eT ZB.out; obtain⟨a0,a1,a2,a3,a4⟩:=eT AB.out; obtain⟨d0,d1,d2,d3,d4⟩:=eT DB.out; have fz:=fun k=>ZB.out.fr k; simp only at z0 z1 z2 z3 z4 a0 a1 a2 a3 a4 d0 d1 d2 d3 d4)
 all_goals try simp only [Exit.then]
 all_goals try apply_assumption
 all_goals try go_wp2
 all_goals refine V (v:=.tuple #[cv (r5 (n,(.tx s))),aD q]) (by simp [results,aj,go_sem,z0,z1,z2,z3,z4,r5,kN,jk,jl,kT]) rfl ?_
 all_goals exact pU HR.out rfl (ig (B.out.drew.trans (hb3.mono B.out.drew.size)) (w.heap.size+1+1) (by omega) _ _ _ _ _)
theorem Sv (n:ByteArray) (s t:ByteArray) (w:aA):aL ah 109 #[cv (r5 (n,(.tx s))),cv (r5 (n,(.pr t)))] w (KR n (fu (.tx s) (.pr t)) w):=by
 obtain⟨ba,bb,bz,hb⟩:=G9 w (r5 (n,(.tx s))) (r5 (n,(.pr t))) (⟨#[]⟩,0,0,0,⟨#[]⟩);have B:=D hb;have BA:=D ba;have BB:=D bb;have BZ:=D bz;obtain⟨q,hq⟩:∃ q,dX (.pr t) (aC,0,s)=q:=⟨_,rfl⟩;have HR:=D (show fu (.tx s) (.pr t)=if q=aC then au (.tx s) else Y by rw [<- hq]; rw [kJ]; rfl);have HC:=D (fun W=>uf (n,.pr t) aC 0 s W);simp only [hq] at HC;generalize fu (.tx s) (.pr t)=r at *;clear ba bb bz hb hq;simp only [r5,kN,jk,jl,kT] at *;go_enter aB,ay;go_wp2_with fail
 go_region_with (go_at_call 67; refine (HC.out _).mono ?_; rintro e w3 ⟨rfl,hb3⟩; have ZB:=D (BZ.out.drew.on hb3); have AB:=D (BA.out.drew.on hb3); have DB:=D (BB.out.drew.on hb3); obtain⟨z0,z1,z2,z3,z4⟩:=eT ZB.out; obtain⟨a0,a1,a2,a3,a4⟩:=eT AB.out; obtain⟨d0,d1,d2,d3,d4⟩:=eT DB.out; have fz:=fun k=>ZB.out.fr k; simp only at z0 z1 z2 z3 z4 a0 a1 a2 a3 a4 d0 d1 d2 d3 d4)
 all_goals try simp only [Exit.then]
 all_goals try apply_assumption
 all_goals try go_wp2
 all_goals refine V (v:=.tuple #[cv (r5 (n,(.tx s))),aD q]) (by simp [results,aj,go_sem,z0,z1,z2,z3,z4,r5,kN,jk,jl,kT]) rfl ?_
 all_goals exact pU HR.out rfl (ig (B.out.drew.trans (hb3.mono B.out.drew.size)) (w.heap.size+1+1) (by omega) _ _ _ _ _)
theorem Sw (n:ByteArray) (s t:ByteArray) (w:aA):aL ah 109 #[cv (r5 (n,(.pr s))),cv (r5 (n,(.tx t)))] w (KR n (fu (.pr s) (.tx t)) w):=by
 obtain⟨ba,bb,bz,hb⟩:=G9 w (r5 (n,(.pr s))) (r5 (n,(.tx t))) (⟨#[]⟩,0,0,0,⟨#[]⟩);have B:=D hb;have BA:=D ba;have BB:=D bb;have BZ:=D bz;obtain⟨q,hq⟩:∃ q,dX (.pr s) (aC,0,t)=q:=⟨_,rfl⟩;have HR:=D (show fu (.pr s) (.tx t)=if q=aC then au (.tx t) else Y by rw [<- hq]; rw [kJ]; rfl);have HC:=D (fun W=>uf (n,.pr s) aC 0 t W);simp only [hq] at HC;generalize fu (.pr s) (.tx t)=r at *;clear ba bb bz hb hq;simp only [r5,kN,jk,jl,kT] at *;go_enter aB,ay;go_wp2_with fail
 go_region_with (go_at_call 67; refine (HC.out _).mono ?_; rintro e w3 ⟨rfl,hb3⟩; have ZB:=D (BZ.out.drew.on hb3); have AB:=D (BA.out.drew.on hb3); have DB:=D (BB.out.drew.on hb3); obtain⟨z0,z1,z2,z3,z4⟩:=eT ZB.out; obtain⟨a0,a1,a2,a3,a4⟩:=eT AB.out; obtain⟨d0,d1,d2,d3,d4⟩:=eT DB.out; have fz:=fun k=>ZB.out.fr k; simp only at z0 z1 z2 z3 z4 a0 a1 a2 a3 a4 d0 d1 d2 d3 d4)
 all_goals try simp only [Exit.then]
 all_goals try apply_assumption
 all_goals try go_wp2
 all_goals refine V (v:=.tuple #[cv (r5 (n,(.tx t))),aD q]) (by simp [results,aj,go_sem,z0,z1,z2,z3,z4,r5,kN,jk,jl,kT]) rfl ?_
 all_goals exact pU HR.out rfl (ig (B.out.drew.trans (hb3.mono B.out.drew.size)) (w.heap.size+1+1) (by omega) _ _ _ _ _)
theorem Sy (n:ByteArray) (s t:ByteArray) (w:aA) (h:t.size<=s.size):aL ah 109 #[cv (r5 (n,(.pr s))),cv (r5 (n,(.pr t)))] w (KR n (fu (.pr s) (.pr t)) w):=by
 obtain⟨ba,bb,bz,hb⟩:=G9 w (r5 (n,(.pr s))) (r5 (n,(.pr t))) (⟨#[]⟩,0,0,0,⟨#[]⟩);have B:=D hb;have BA:=D ba;have BB:=D bb;have BZ:=D bz;obtain⟨q,hq⟩:∃ q,pfx t s=q:=⟨_,rfl⟩;have HR:=D (show fu (.pr s) (.pr t)=if q=aC then au (.pr s) else Y by rw [<- hq]; exact adH h);have HC:=D (fun W=>(nU s t W).mono (fun e w' (h:e=aI (aD (pfx t s))/\w'=W)=>(show e=aI (aD (pfx t s))/\Below W.heap.size W w' from ⟨h.1,h.2 ▸ Below.refl _ _⟩)));simp only [hq] at HC;have e1:decide ((t.size:Int)<=(s.size:Int))=aC:=by simp; omega
 have e2:(t.size:Int)<=(s.size:Int):=by omega
 generalize fu (.pr s) (.pr t)=r at *;clear ba bb bz hb hq;simp only [r5,kN,jk,jl,kT] at *;go_enter aB,ay;go_wp2_with fail
 go_region_with (go_at_call 96; refine (HC.out _).mono ?_; rintro e w3 ⟨rfl,hb3⟩; have ZB:=D (BZ.out.drew.on hb3); have AB:=D (BA.out.drew.on hb3); have DB:=D (BB.out.drew.on hb3); obtain⟨z0,z1,z2,z3,z4⟩:=eT ZB.out; obtain⟨a0,a1,a2,a3,a4⟩:=eT AB.out; obtain⟨d0,d1,d2,d3,d4⟩:=eT DB.out; have fz:=fun k=>ZB.out.fr k; simp only at z0 z1 z2 z3 z4 a0 a1 a2 a3 a4 d0 d1 d2 d3 d4)
 all_goals try simp only [Exit.then]
 all_goals try apply_assumption
 all_goals try go_wp2
 all_goals refine V (v:=.tuple #[cv (r5 (n,(.pr s))),aD q]) (by simp [results,aj,go_sem,z0,z1,z2,z3,z4,r5,kN,jk,jl,kT]) rfl ?_
 all_goals exact pU HR.out rfl (ig (B.out.drew.trans (hb3.mono B.out.drew.size)) (w.heap.size+1+1) (by omega) _ _ _ _ _)
theorem Sz (n:ByteArray) (s t:ByteArray) (w:aA) (h:¬ t.size<=s.size):aL ah 109 #[cv (r5 (n,(.pr s))),cv (r5 (n,(.pr t)))] w (KR n (fu (.pr s) (.pr t)) w):=by
 obtain⟨ba,bb,bz,hb⟩:=G9 w (r5 (n,(.pr s))) (r5 (n,(.pr t))) (⟨#[]⟩,0,0,0,⟨#[]⟩);have B:=D hb;have BA:=D ba;have BB:=D bb;have BZ:=D bz;obtain⟨q,hq⟩:∃ q,pfx s t=q:=⟨_,rfl⟩;have HR:=D (show fu (.pr s) (.pr t)=if q=aC then au (.pr t) else Y by rw [<- hq]; exact adI h);have HC:=D (fun W=>(nU t s W).mono (fun e w' (h:e=aI (aD (pfx s t))/\w'=W)=>(show e=aI (aD (pfx s t))/\Below W.heap.size W w' from ⟨h.1,h.2 ▸ Below.refl _ _⟩)));simp only [hq] at HC;have e1:decide ((t.size:Int)<=(s.size:Int))=aR:=by simp; omega
 have e2:¬ ((t.size:Int)<=(s.size:Int)):=by omega
 generalize fu (.pr s) (.pr t)=r at *;clear ba bb bz hb hq;simp only [r5,kN,jk,jl,kT] at *;go_enter aB,ay;go_wp2_with fail
 go_region_with (go_at_call 96; refine (HC.out _).mono ?_; rintro e w3 ⟨rfl,hb3⟩; have ZB:=D (BZ.out.drew.on hb3); have AB:=D (BA.out.drew.on hb3); have DB:=D (BB.out.drew.on hb3); obtain⟨z0,z1,z2,z3,z4⟩:=eT ZB.out; obtain⟨a0,a1,a2,a3,a4⟩:=eT AB.out; obtain⟨d0,d1,d2,d3,d4⟩:=eT DB.out; have fz:=fun k=>ZB.out.fr k; simp only at z0 z1 z2 z3 z4 a0 a1 a2 a3 a4 d0 d1 d2 d3 d4)
 all_goals try simp only [Exit.then]
 all_goals try apply_assumption
 all_goals try go_wp2
 all_goals refine V (v:=.tuple #[cv (r5 (n,(.pr t))),aD q]) (by simp [results,aj,go_sem,z0,z1,z2,z3,z4,r5,kN,jk,jl,kT]) rfl ?_
 all_goals exact pU HR.out rfl (ig (B.out.drew.trans (hb3.mono B.out.drew.size)) (w.heap.size+1+1) (by omega) _ _ _ _ _)
theorem SE (n:ByteArray) (a b c d:Int) (w:aA):aL ah 109 #[cv (r5 (n,(.rg a b))),cv (r5 (n,(.rg c d)))] w (KR n (fu (.rg a b) (.rg c d)) w):=by
 have R:=D (show fu (.rg a b) (.rg c d)=if max a c<=min b d then au (.rg (max a c) (min b d)) else Y from rfl);have B:=D (G9 w (r5 (n,(.rg a b))) (r5 (n,(.rg c d))) (⟨#[]⟩,0,0,0,⟨#[]⟩)).2.2.2;generalize fu (.rg a b) (.rg c d)=r at *;simp only [r5,kN,jk,jl,kT] at *;go_enter aB,ay;go_wp2_with fail
 go_region
 all_goals simp only [Exit.then]
 all_goals apply_assumption
 have e1:(if a<c then c else a)=max a c:=by split <;> omega
 have e2:(if d<b then d else b)=min b d:=by split <;> omega
 try rw [e1]
 try rw [e2]
 clear e1 e2;generalize max a c=M at R ⊢;generalize min b d=N at R ⊢;have HR:=D (show r=if decide (M<=N)=aC then au (.rg M N) else Y by rw [R.out]; simp);clear R;go_wp2_with fail
 go_region
 all_goals try simp only [Exit.then]
 all_goals try apply_assumption
 all_goals try go_wp2
 all_goals refine V (v:=.tuple #[cv (r5 (n,(.rg M N))),aD (decide (M<=N))]) (by simp [results,aj,go_sem,r5,kN,jk,jl,kT]) rfl ?_
 all_goals refine pU HR.out rfl ?_
 all_goals first
  | exact (b3 w _ _ _).drew.drew
  | exact (b3 w _ _ _).drew
  | exact (b3 w _ _ _)
end Rl
namespace Pr
open Go.RowKit Go.Sort Pu Rw Va
theorem Dm:∀ (l:List C5) (k:Nat) (x:C5),k<l.length->flat EC (l.set k x)=((((( flat EC l).set (k * 5) (J x.1)).set (k * 5+1) (L U x.2.1)).set (k * 5+2) (L U x.2.2.1)).set (k * 5+3) (L U x.2.2.2.1)).set (k * 5+4) (J x.2.2.2.2)
 | [],k,x,h=>by simp at h
 | y::r,0,x,_=>by simp [flat,EC,cells5]
 | y::r,k+1,x,h=>by
  have h2:=Dm r k x (by simpa using h);have e:∀ j u (zs:List aO),(cells5 y++zs).set (5+j) u=cells5 y++zs.set j u:=fun j u zs=>by simp [cells5,Nat.add_comm 5 j]
  simp only [List.set_cons_succ,flat,h2];show cells5 y++_=_;rw [show (k+1) * 5=5+k * 5 by omega,show 5+k * 5+1=5+(k * 5+1) by omega,show 5+k * 5+2=5+(k * 5+2) by omega,show 5+k * 5+3=5+(k * 5+3) by omega,show 5+k * 5+4=5+(k * 5+4) by omega];show _=((((( cells5 y++flat EC r).set _ _).set _ _).set _ _).set _ _).set _ _;rw [e,e,e,e,e]
theorem Oi {W:aA} {B g n cap k:Nat} {l:List C5} {x:C5} (h:jP W B (aT (au ⟨g,0,Y⟩) n cap) l) (hn:n=l.length) (hk:k<n) :
  jP (((((W.setCell ⟨g,k * 5,Y⟩ (J x.1)).setCell ⟨g,k * 5+1,Y⟩ (L U x.2.1)).setCell ⟨g,k * 5+2,Y⟩ (L U x.2.2.1)).setCell ⟨g,k * 5+3,Y⟩ (L U x.2.2.2.1)).setCell ⟨g,k * 5+4,Y⟩ (J x.2.2.2.2)) B (aT (au ⟨g,0,Y⟩) n cap) (l.set k x):=by
 subst hn;have o1:=(Z h (k * 5) (J x.1)).1;have o2:=(Z o1 (k * 5+1) (L U x.2.1)).1;have o3:=(Z o2 (k * 5+2) (L U x.2.2.1)).1;have o4:=(Z o3 (k * 5+3) (L U x.2.2.2.1)).1;have o5:=(Z o4 (k * 5+4) (J x.2.2.2.2)).1;rw [<- Dm l k x hk] at o5;show World.ownsRow _ _ _ _ _ (l.set k x).length _;rw [List.length_set];exact o5
theorem EM {B:Nat} {W w:aA} (h:Below B W w) (g:Nat) (hB:B<=g) (o:Nat) (v0 v1 v2 v3 v4:aO):Below B W (((((w.setCell ⟨g,o,Y⟩ v0).setCell ⟨g,o+1,Y⟩ v1).setCell ⟨g,o+2,Y⟩ v2).setCell ⟨g,o+3,Y⟩ v3).setCell ⟨g,o+4,Y⟩ v4) :=
 ((((h.setCell hB _).setCell hB _).setCell hB _).setCell hB _).setCell hB _
theorem wR {W:aA} {b:Nat} {z:C5} (h:dJ W b (cells5 z).toArray 106) (x:C5):dJ (((((W.setCell ⟨b,0,Y⟩ (J x.1)).setCell ⟨b,1,Y⟩ (L U x.2.1)).setCell ⟨b,2,Y⟩ (L U x.2.2.1)).setCell ⟨b,3,Y⟩ (L U x.2.2.2.1)).setCell ⟨b,4,Y⟩ (J x.2.2.2.2)) b (cells5 x).toArray 106:=by
 have h1:=heap_setCell_same W b 0 _ 106 (J x.1) h;have h2:=heap_setCell_same _ b 1 _ 106 (L U x.2.1) h1;have h3:=heap_setCell_same _ b 2 _ 106 (L U x.2.2.1) h2;have h4:=heap_setCell_same _ b 3 _ 106 (L U x.2.2.2.1) h3;have h5:=heap_setCell_same _ b 4 _ 106 (J x.2.2.2.2) h4;unfold dJ;rw [h5];simp [cells5]
end Pr
namespace Bk
open Go.RowKit Go.Sort Rw YtkcfgbddlpomgaaGreat.Nm Pr
noncomputable def abl:Code:=((Tryz.f27.body.bind (iY 0)).getD .skip)
theorem Xe (Q:Exit->Act->aA->Prop) (W:aA) (b2 b3:Nat) (me c d:Int) (y1 y2 y3 y4:aO) (so:Option Addr) (n sc:Nat) (l:List qM) (u0 u1 u2 u5 u6 u7 u9 u10 u11 u12 u13 u14 u15 u16 u17 u18 u19 u20 u21 u22 u23 u24 u25 u26 u27 u28 u29 u30 u31 u32 u33 u34 u35 u36 u37 u38 u39 u40 u41 u42 u43 u44 u45 u46 u47 u48 u49 u50 u51 u52 u53 u54 u55 u56 u57 u58 u59 u60 u61 u62 u63 u64 u65 u66 u67 u68 u69 u70 u71 u72 u73 u74 u75 u76 u77 u78 u79 u80 u81 u82 u83 u84 u85 u86 u87 u88 u89 u90 u91 u92 u93 u94 u95 u96 u97 u98:aO)
  (h2:dJ W b2 #[L U me,y1,y2,y3,y4,aT so n sc] 33) (h3:dJ W b3 #[L U c,L U d] 38) (hs:Nf W (aT so n sc) l) (hn:n=l.length) (hm:n<=1000000)
  (hQ:∀ (wr:aA) (v14 v15 v16 v17 v18 v19 v20 v21 v22 v23 v24 v25 v26 v27 v28 v29 v30:aO),Below W.heap.size W wr->Q .normal ⟨(u0::u1::u2::aP (au ⟨b2,0,Y⟩)::aP (au ⟨b3,0,Y⟩)::u5::u6::u7::L U (fH (l.map fun y=>(y.1,y.2.1)) (c,d):Nat)::u9::u10::u11::u12::u13::v14::v15::v16::v17::v18::v19::v20::v21::v22::v23::v24::v25::v26::v27::v28::v29::v30::u31::u32::u33::u34::u35::u36::u37::u38::u39::u40::u41::u42::u43::u44::u45::u46::u47::u48::u49::u50::u51::u52::u53::u54::u55::u56::u57::u58::u59::u60::u61::u62::u63::u64::u65::u66::u67::u68::u69::u70::u71::u72::u73::u74::u75::u76::u77::u78::u79::u80::u81::u82::u83::u84::u85::u86::u87::u88::u89::u90::u91::u92::u93::u94::u95::u96::u97::u98::[]).toArray,[]⟩ wr) :
  Code.wp ah abl Q ⟨(u0::u1::u2::aP (au ⟨b2,0,Y⟩)::aP (au ⟨b3,0,Y⟩)::u5::u6::u7::L U 0::u9::u10::u11::u12::u13::u14::u15::u16::u17::u18::u19::u20::u21::u22::u23::u24::u25::u26::u27::u28::u29::u30::u31::u32::u33::u34::u35::u36::u37::u38::u39::u40::u41::u42::u43::u44::u45::u46::u47::u48::u49::u50::u51::u52::u53::u54::u55::u56::u57::u58::u59::u60::u61::u62::u63::u64::u65::u66::u67::u68::u69::u70::u71::u72::u73::u74::u75::u76::u77::u78::u79::u80::u81::u82::u83::u84::u85::u86::u87::u88::u89::u90::u91::u92::u93::u94::u95::u96::u97::u98::[]).toArray,[]⟩ W:=by
 have HQ:=D hQ;have H2:=D h2;have H3:=D h3;have HS:=D hs;have HN:=D hn;clear hQ h2 h3 hs hn
 conv=>arg 2; whnf
 go_wp2
 go_loopw [8] (fun i wr=>∃ k:Nat,k<=n/\i=L U k/\Below W.heap.size W wr/\∀ (j:Nat) (y:Id),j<k->(l.map fun y=>(y.1,y.2.1))[j]?=au y->eu y (c,d)=aC) (fun i _=>n-(intOf i).toNat)
 case atStart=>exact⟨0,aV _,rfl,Below.refl _ _,fun j y h=>by omega⟩
 case round =>
  obtain⟨k,hk,rfl,hbe,hall⟩:=hrel;have BE:=D hbe;have AL:=D hall;clear hbe hall;have q0:=aH (show wr.cell? ⟨b2,5,Y⟩=au (aT so n sc) from (H2.out.on BE.out).cell 5);have r0:=aH (show wr.cell? ⟨b3,0,Y⟩=au (L U c) from (H3.out.on BE.out).cell 0);have r1:=aH (show wr.cell? ⟨b3,1,Y⟩=au (L U d) from (H3.out.on BE.out).cell 1);have hw3:IntKind.i64.wrap ((k:Int)+1)=(k:Int)+1:=IntWalk.i64_in _ (by omega);by_cases hlt:k<n
  ·obtain⟨y,hy⟩:∃ y,l[k]?=au y:=⟨_,List.getElem?_eq_getElem (by rw [<- HN.out]; exact hlt)⟩;obtain⟨p,ix,px⟩:=elW HS.out rfl HN.out.symm hy;have xL:=px wr BE.out;obtain⟨y1,y2,⟨yo,yn,yc⟩⟩:=y;simp only at xL;have p0:=aH xL.1;have p1:=aH xL.2.1;have xg:decide ((k:Int)<(n:Int))=aC:=decide_eq_true (by omega);have AQ:decide (k<n)=aC:=decide_eq_true hlt;obtain⟨r,hr⟩:∃ r,eu (y1,y2) (c,d)=r:=⟨_,rfl⟩;have LS:=D (fun d' os=>Calls.regrown_of (d:=d') (os:=os) ((rA (y1,y2) (c,d) (grow (aW wr d') os)).mono fun _ _ h=>⟨by rw [h.1,hr],h.2⟩));have HY:=D (show (l.map fun y=>(y.1,y.2.1))[k]?=au (y1,y2) by rw [List.getElem?_map,hy]; rfl);have HR:=D hr;clear px xL hy hr;cases r
   ·go_wp2_with fail;refine wp_region_quiet_below (by kernel_rfl) (by kernel_rfl) ?_
    repeat (go_big_quiet_step (first | (with_reducible exact LS.out _ _)))
    refine wpQuiet_nil ?_;intro _ hw';obtain⟨⟨dq,osq⟩,hw''⟩:=hw';subst hw'';have Z6:=aM wr dq osq;have HF:=D (fun v14 v15 v16 v17 v18 v19 v20 v21 v22 v23 v24 v25 v26 v27 v28 v29 v30=>HQ.out (grow (aW wr dq) osq) v14 v15 v16 v17 v18 v19 v20 v21 v22 v23 v24 v25 v26 v27 v28 v29 v30 (BE.out.trans (Z6.mono BE.out.size)));rw [nT (l.map fun y=>(y.1,y.2.1)) (c,d) k AL.out (Or.inr ⟨_,HY.out,HR.out⟩)] at HF;clear ix HQ q0 r0 r1 LS xg AQ p0 p1;go_wp2;exact HF.out _ _ _ _ _ _ _ _ _ _ _ _ _ _ _ _ _
   ·go_wp2_with fail;refine wp_region_quiet_below (by kernel_rfl) (by kernel_rfl) ?_
    repeat (go_big_quiet_step (first | (with_reducible exact LS.out _ _)))
    refine wpQuiet_nil ?_;intro _ hw';obtain⟨⟨dq,osq⟩,hw''⟩:=hw';subst hw'';have Z6:=D (aM wr dq osq);clear ix q0 r0 r1 LS xg AQ p0 p1;go_wp2
    go_roundw
    case rel=>exact⟨k+1,by omega,by go_num,BE.out.trans (Z6.out.mono BE.out.size),fun j y' hj h1=>by
     rcases aU j k with h3|h3
     ·exact AL.out j y' h3 h1
     ·obtain rfl:j=k:=by omega
      have e1:=HY.out;rw [h1] at e1;rw [aG e1];exact HR.out⟩
    case measure=>simp [intOf]; omega
  ·obtain rfl:k=n:=by omega
   have xg:decide ((k:Int)<(k:Int))=aR:=by simp
   have AQ:decide (k<k)=aR:=by simp
   go_wp2_with fail;refine wp_region_quiet_below (by kernel_rfl) (by kernel_rfl) ?_
   repeat (go_big_quiet_step (fail))
   refine wpQuiet_nil ?_;intro _ hw';obtain⟨⟨dq,osq⟩,hw''⟩:=hw';subst hw'';have Z6:=aM wr dq osq;have HF:=D (fun v14 v15 v16 v17 v18 v19 v20 v21 v22 v23 v24 v25 v26 v27 v28 v29 v30=>HQ.out (grow (aW wr dq) osq) v14 v15 v16 v17 v18 v19 v20 v21 v22 v23 v24 v25 v26 v27 v28 v29 v30 (BE.out.trans (Z6.mono BE.out.size)));rw [nT (l.map fun y=>(y.1,y.2.1)) (c,d) k AL.out (Or.inl (by simpa using HN.out))] at HF;clear HQ q0 r0 r1 xg AQ;go_wp2;exact HF.out _ _ _ _ _ _ _ _ _ _ _ _ _ _ _ _ _
end Bk
namespace At
open Go.RowKit Go.Sort Va In
end At
namespace Rl
open Go.RowKit Go.Sort Pu Rw Pr Va
abbrev z5:C5:=(⟨#[]⟩,0,0,0,⟨#[]⟩)
def ofV:Option Cn->aO
 | some y=>.tuple #[cv (r5 y),aD aC]
 | none=>.tuple #[cv z5,aD aR]
theorem JO (pv:aO) (p:List Cn) (n:ByteArray) (w:aA) (hp:fK w pv (p.map r5)) (_h100:p.length<=100) :
  aL ah 128 #[pv,J n] w fun e w'=>e=aI (ofV (VT p n))/\Below w.heap.size w w':=by
 have HP:=D hp;obtain⟨ao,ac,rfl⟩:=hp.len;rw [List.length_map] at HP ⊢;generalize hm:p.length=m at *;have HM:=D hm;clear hp hm;have B0:=D (show Below w.heap.size w (w.alloc (K #[J ⟨#[]⟩,L U 0,L U 0,L U 0,J ⟨#[]⟩] 106)) from (Below.refl _ _).alloc (aK _) _);have Z0:=D (show dJ (w.alloc (K #[J ⟨#[]⟩,L U 0,L U 0,L U 0,J ⟨#[]⟩] 106)) w.heap.size (cells5 z5).toArray 106 from dL w _ _);go_enter Tryz.func128,Tryz.ntmps128;go_wp2;generalize w.alloc (K #[J ⟨#[]⟩,L U 0,L U 0,L U 0,J ⟨#[]⟩] 106)=w1 at B0 Z0 ⊢
 go_loopw [10] (fun i wr=>∃ k:Nat,k<=m/\i=L U k/\Below w.heap.size w wr/\dJ wr w.heap.size (cells5 z5).toArray 106/\∀ (j:Nat) (y:Cn),j<k->p[j]?=au y->y.1≠n) (fun i _=>m-(intOf i).toNat)
 case atStart=>exact⟨0,aV _,rfl,B0.out,Z0.out,fun j y h=>by omega⟩
 case round =>
  obtain⟨k,hk,rfl,hb,ht,hall⟩:=hrel;have HB:=D hb;have HT:=D ht;have AL:=D hall;clear hb hall ht;by_cases hlt:k<m
  ·obtain⟨⟨xn,xk⟩,hx⟩:∃ x,p[k]?=au x:=⟨_,List.getElem?_eq_getElem (by rw [HM.out]; exact hlt)⟩;obtain⟨q,ix,px⟩:=Wm (x:=r5 (xn,xk)) HP.out rfl (by rw [List.length_map]; exact HM.out) (by rw [List.getElem?_map,hx]; rfl);obtain⟨p0,p1,p2,p3,p4⟩:=px _ HB.out;have HX:=D hx;have B4:=D (HB.out.alloc HB.out.size (K #[J xn,L U (kN xk),L U (jk xk),L U (jl xk),J (kT xk)] 106));have T4:=D (HT.out.more (K #[J xn,L U (kN xk),L U (jk xk),L U (jl xk),J (kT xk)] 106));clear hx px;simp only [r5] at p0 p1 p2 p3 p4;by_cases he:xn=n
   ·have hn:(xn.toList == n.toList)=aC:=by rw [he]; exact beq_self_eq_true _
    have R:=D (ac1 HX.out he AL.out);clear he;obtain⟨c0,c1,c2,c3,c4⟩:=eT HT.out;have f0:=HT.out.fr 0;have f1:=HT.out.fr 1;have f2:=HT.out.fr 2;have f3:=HT.out.fr 3;have f4:=HT.out.fr 4;have abn:=HT.out.lt;simp only at c0 c1 c2 c3 c4;go_wp2;have T5:=(wR HT.out (xn,kN xk,jk xk,jl xk,kT xk)).more (K #[J xn,L U (kN xk),L U (jk xk),L U (jl xk),J (kT xk)] 106);have B5:=(ig HB.out w.heap.size (aK _) (J xn) (L U (kN xk)) (L U (jk xk)) (L U (jl xk)) (J (kT xk))).alloc (ig HB.out w.heap.size (aK _) (J xn) (L U (kN xk)) (L U (jk xk)) (L U (jl xk)) (J (kT xk))).size (K #[J xn,L U (kN xk),L U (jk xk),L U (jl xk),J (kT xk)] 106);generalize World.alloc _ (K #[J xn,L U (kN xk),L U (jk xk),L U (jl xk),J (kT xk)] 106)=w6 at T5 B5 ⊢;obtain⟨d0,d1,d2,d3,d4⟩:=eT T5;simp only at d0 d1 d2 d3 d4;refine V (v:=ofV (au (xn,xk))) (by simp [results,aN,go_sem,d0,d1,d2,d3,d4,ofV,r5]) rfl ⟨by rw [R.out],B5⟩
   ·have hn:(xn.toList == n.toList)=aR:=by rw [beq_eq_false_iff_ne]; exact fun h=>he (nP h)
    have HE:=D he;clear he;go_wp2
    go_roundw
    case rel=>exact⟨k+1,by omega,by go_num,B4.out,T4.out,fun j y hj hy=>by
     rcases aU j k with h3|h3
     ·exact AL.out j y h3 hy
     ·obtain rfl:j=k:=by omega
      have e:=HX.out;rw [hy] at e;rw [aG e];exact HE.out⟩
    case measure=>simp [intOf]; omega
  ·obtain rfl:k=m:=by omega
   have R:=D (WH (p:=p) (n:=n) (fun j y hj hy=>AL.out j y (by rw [<- HM.out]; exact hj) hy));obtain⟨c0,c1,c2,c3,c4⟩:=eT HT.out;have f0:=HT.out.fr 0;have f1:=HT.out.fr 1;have f2:=HT.out.fr 2;have f3:=HT.out.fr 3;have f4:=HT.out.fr 4;have abn:=HT.out.lt;simp only at c0 c1 c2 c3 c4;go_wp2;have T5:=wR HT.out z5;have B5:=ig HB.out w.heap.size (aK _) (J ⟨#[]⟩) (L U 0) (L U 0) (L U 0) (J ⟨#[]⟩);simp only at T5;generalize World.setCell _ _ (J ⟨#[]⟩)=w6 at T5 B5 ⊢;obtain⟨d0,d1,d2,d3,d4⟩:=eT T5;simp only at d0 d1 d2 d3 d4;refine V (v:=ofV Y) (by simp [results,aN,go_sem,d0,d1,d2,d3,d4,ofV]) rfl ⟨by rw [R.out],B5⟩
theorem Oj (n:ByteArray) (c d:Kd) (w:aA) (hc:iZ c=aC) (hd:iZ d=aC) :
  aL ah 129 #[cv (r5 (n,c)),cv (r5 (n,d))] w fun e w'=>e=aI (aD (eF d c))/\Below w.heap.size w w':=by
 obtain⟨ba,bb,hb⟩:=QT w (r5 (n,c)) (r5 (n,d));have BB:=D bb;have B:=D hb;have CB:=D (Sq (n,c) (n,d) ((w.alloc (K (cells5 (r5 (n,c))).toArray 106)).alloc (K (cells5 (r5 (n,d))).toArray 106)) rfl);have WS:=D (fun k (h:fu c d=au k)=>JC (n:=n) hc hd h);have WN:=D (fun (h:fu c d=Y)=>JD hd h);simp only at CB;generalize fu c d=r at *;generalize eF d c=i at *;clear ba bb hb hc hd;simp only [r5] at CB ⊢;go_enter Tryz.func129,Tryz.ntmps129;go_wp2_with fail;refine CB.out.mono ?_;rintro e w2 ⟨⟨y,rfl,hy⟩,hb2⟩;have B2:=D (B.out.trans (hb2.mono B.out.size));obtain⟨b0,b1,b2,b3,b4⟩:=eT (BB.out.on hb2);simp only [r5] at b0 b1 b2 b3 b4;have B3:=D (B2.out.alloc B2.out.size (K #[J y.1,L U y.2.1,L U y.2.2.1,L U y.2.2.2.1,J y.2.2.2.2] 106));have HY:=D hy;have hw2:w.heap.size+1<w2.heap.size:=by have:=hb2.size; simp at this; omega
 clear hb2 CB BB B hy;rcases r with _|k
 ·have E:=D (WN.out rfl);clear WN WS;go_wp2;go_ret;exact⟨eD E.out.symm,B3.out⟩
 ·have E:=D (show xK y (r5 (n,d))=i by rw [HY.out k rfl]; exact WS.out k rfl);obtain⟨y0,y1,y2,y3,y4⟩:=y;clear WN WS HY B3;go_wp2
  all_goals go_ret
  all_goals exact⟨eD (by rw [<- E.out]; simp [xK,r5, *]),B2.out.alloc B2.out.size _⟩
end Rl
end Go.Proofs.YtkcfgbddlpomgaaGreat
