/-
  Both of package pred. Conditions as told.
-/
import Derived.Test.YtmklifheakemeaaGreatLQ006
import Derived.Test.YtmklifheakemeaaGreatLQ008
import Derived.Test.YtmklifheakemeaaGreatLQ002
import Derived.Deep.RegionWith
set_option maxRecDepth 100000
set_option maxHeartbeats 64000000
open _root_.Array renaming length_toList->K
open _root_.Bool renaming eq_false_or_eq_true->Q,true->aj
open Go.Lib renaming hid->D
open Go.Obj renaming cells->J
open Go.Proofs.Tryz renaming results181->L,ntmps181->V,prog->Y,func181->ah
open _root_.Option renaming none->U,some->Z
namespace Go.Proofs.YtmklifheakemeaaGreat
namespace Pr
open Go.RowKit Go.Sort Pu Rw Va
theorem Bf (w:World) (c d z:C5):dI (((w.alloc (J (cells5 c).toArray 70)).alloc (J (cells5 d).toArray 70)).alloc (J (cells5 z).toArray 70)) w.heap.size (cells5 c).toArray 70/\dI (((w.alloc (J (cells5 c).toArray 70)).alloc (J (cells5 d).toArray 70)).alloc (J (cells5 z).toArray 70)) (w.heap.size+1) (cells5 d).toArray 70/\dI (((w.alloc (J (cells5 c).toArray 70)).alloc (J (cells5 d).toArray 70)).alloc (J (cells5 z).toArray 70)) (w.heap.size+1+1) (cells5 z).toArray 70/\Below w.heap.size w (((w.alloc (J (cells5 c).toArray 70)).alloc (J (cells5 d).toArray 70)).alloc (J (cells5 z).toArray 70)):=by
 obtain⟨h1,h2,h3⟩:=KX w c d;refine⟨h1.more _,h2.more _,?_,h3.alloc h3.size _⟩;have h:=dL ((w.alloc (J (cells5 c).toArray 70)).alloc (J (cells5 d).toArray 70)) (cells5 z).toArray 70
 rwa [show ((w.alloc (J (cells5 c).toArray 70)).alloc (J (cells5 d).toArray 70)).heap.size=w.heap.size+1+1 by simp] at h
theorem eH {W:World} {b:Nat} {c:C5} (h:dI W b (cells5 c).toArray 70):W.cell? ⟨b,0,U⟩=Z (.string c.1)/\W.cell? ⟨b,1,U⟩=Z (.int .i64 c.2.1)/\W.cell? ⟨b,2,U⟩=Z (.int .i64 c.2.2.1)/\W.cell? ⟨b,3,U⟩=Z (.int .i64 c.2.2.2.1)/\W.cell? ⟨b,4,U⟩=Z (.string c.2.2.2.2):=⟨h.cell 0,h.cell 1,h.cell 2,h.cell 3,h.cell 4⟩
theorem gL {B:Nat} {W w:World} (h:Below B W w) (g:Nat) (hB:B<=g) (v0 v1 v2 v3 v4:Value):Below B W (((((w.setCell ⟨g,0,U⟩ v0).setCell ⟨g,1,U⟩ v1).setCell ⟨g,2,U⟩ v2).setCell ⟨g,3,U⟩ v3).setCell ⟨g,4,U⟩ v4) :=
 ((((h.setCell hB _).setCell hB _).setCell hB _).setCell hB _).setCell hB _
theorem QO (na nb:ByteArray) (a b c d:Int) (w:World):Calls Y 181 #[cv (r5 (na,.rg a b)),cv (r5 (nb,.rg c d))] w (Gg na (eX (.rg a b) (.rg c d)) w):=by
 obtain⟨ba,bb,bz,hb⟩:=Bf w (r5 (na,.rg a b)) (r5 (nb,.rg c d)) (⟨#[]⟩,0,0,0,⟨#[]⟩);have B:=D hb;have BA:=D ba;have BB:=D bb;have BZ:=D bz;have O:=D (Ay na nb a b c d (((w.alloc (J (cells5 (r5 (na,.rg a b))).toArray 70)).alloc (J (cells5 (r5 (nb,.rg c d))).toArray 70)).alloc (J (cells5 (⟨#[]⟩,0,0,0,⟨#[]⟩)).toArray 70)));generalize eX (.rg a b) (.rg c d)=r at *;clear ba bb bz hb;simp only [r5,kN,iJ,iK,kT];go_enter ah,V;go_wp2_with fail;refine O.out.mono ?_;rintro e W2 ⟨⟨x,rfl,hx⟩,hb2⟩;have B2:=D (B.out.trans (hb2.mono B.out.size));have Z2:=D (BZ.out.on hb2);have X:=D hx;obtain⟨z0,z1,z2,z3,z4⟩:=eH Z2.out;have fz:=fun k=>Z2.out.fr k;simp only at z0 z1 z2 z3 z4;clear hx hb2 O B BA BB BZ;go_wp2;refine bodyPost_ret (v:=.tuple #[cv x,.bool r.isSome]) (by simp [results,L,go_sem,z0,z1,z2,z3,z4]) rfl ?_;exact⟨⟨x,rfl,X.out⟩,gL B2.out (w.heap.size+1+1) (by omega) _ _ _ _ _⟩
theorem nL (na nb:ByteArray) (ka kb:Kd) (w:World) (hno:(kN ka=1/\kN kb≠1)\/kN ka≠1) (hn:na=nb) (r:Option Kd) (hr:r=if gU ka kb then Z ka else if gU kb ka then Z kb else U):Calls Y 181 #[cv (r5 (na,ka)),cv (r5 (nb,kb))] w (Gg na r w):=by
 obtain⟨ba,bb,bz,hb⟩:=Bf w (r5 (na,ka)) (r5 (nb,kb)) (⟨#[]⟩,0,0,0,⟨#[]⟩);have B:=D hb;have BA:=D ba;have BB:=D bb;have BZ:=D bz;have I1:=D (vD (na,ka) (nb,kb) (((w.alloc (J (cells5 (r5 (na,ka))).toArray 70)).alloc (J (cells5 (r5 (nb,kb))).toArray 70)).alloc (J (cells5 (⟨#[]⟩,0,0,0,⟨#[]⟩)).toArray 70)));have I2:=D (fun W=>vD (nb,kb) (na,ka) W);obtain⟨i1,e1⟩:∃ i,gU ka kb=i:=⟨_,rfl⟩;obtain⟨i2,e2⟩:∃ i,gU kb ka=i:=⟨_,rfl⟩;simp only [e1] at I1;simp only [e2] at I2;rw [e1,e2] at hr;have HR:=D hr;have NE:=D hn;obtain⟨j1,g1⟩:∃ j,(kN ka == (1:Int))=j:=⟨_,rfl⟩;have g2:j1=aj->(kN kb == (1:Int))=false:=fun e=>by
  subst e;rcases hno with⟨_,h⟩|h
  ·exact beq_eq_false_iff_ne.2 h
  ·exact absurd (beq_iff_eq.1 g1) h
 have G2:=D g2;clear ba bb bz hb e1 e2 hn hno g2 hr;simp only [r5] at I1 I2 ⊢;cases j1
 all_goals try have g3:=G2.out rfl
 all_goals
  clear G2;go_enter ah,V;go_wp2_with fail;refine I1.out.mono ?_;rintro e W2 ⟨rfl,hb2⟩;have B2:=D (B.out.trans (hb2.mono B.out.size));have Z2:=D (BZ.out.on hb2);have A2:=D (BA.out.on hb2);have D2:=D (BB.out.on hb2);obtain⟨a0,a1,a2,a3,a4⟩:=eH A2.out;obtain⟨d0,d1,d2,d3,d4⟩:=eH D2.out;obtain⟨z0,z1,z2,z3,z4⟩:=eH Z2.out;have fz:=fun k=>Z2.out.fr k;simp only [r5] at a0 a1 a2 a3 a4 d0 d1 d2 d3 d4;simp only at z0 z1 z2 z3 z4;clear hb2 B BA BB BZ I1;rcases Q i1 with rfl|rfl
  ·go_wp2;refine bodyPost_ret (v:=.tuple #[cv (r5 (na,ka)),.bool aj]) (by simp [results,L,go_sem,z0,z1,z2,z3,z4,r5]) rfl ?_;exact⟨⟨r5 (na,ka),by rw [HR.out]; rfl,fun k hk=>by rw [HR.out] at hk; rw [<- Option.some.inj hk]⟩,gL B2.out (w.heap.size+1+1) (by omega) _ _ _ _ _⟩
  ·clear a0 a1 a2 a3 a4 d0 d1 d2 d3 d4;obtain⟨a0,a1,a2,a3,a4⟩:=eH A2.out;obtain⟨d0,d1,d2,d3,d4⟩:=eH D2.out;simp only [r5] at a0 a1 a2 a3 a4 d0 d1 d2 d3 d4;go_wp2_with fail;refine (I2.out _).mono ?_;rintro e W3 ⟨rfl,hb3⟩;have B3:=D (B2.out.trans (hb3.mono B2.out.size));have Z3:=D (Z2.out.on hb3);have D3:=D (D2.out.on hb3);clear a0 a1 a2 a3 a4 d0 d1 d2 d3 d4 z0 z1 z2 z3 z4 fz;obtain⟨d0,d1,d2,d3,d4⟩:=eH D3.out;obtain⟨z0,z1,z2,z3,z4⟩:=eH Z3.out;have fz:=fun k=>Z3.out.fr k;simp only [r5] at d0 d1 d2 d3 d4;simp only at z0 z1 z2 z3 z4;clear hb3 B2 I2 A2 D2 Z2;rcases Q i2 with rfl|rfl
   ·go_wp2;refine bodyPost_ret (v:=.tuple #[cv (r5 (nb,kb)),.bool aj]) (by simp [results,L,go_sem,z0,z1,z2,z3,z4,r5]) rfl ?_;exact⟨⟨r5 (nb,kb),by rw [HR.out]; rfl,fun k hk=>by rw [HR.out] at hk; rw [NE.out,<- Option.some.inj hk]⟩,gL B3.out (w.heap.size+1+1) (by omega) _ _ _ _ _⟩
   ·go_wp2;refine bodyPost_ret (v:=.tuple #[cv ((⟨#[]⟩,0,0,0,⟨#[]⟩)),.bool false]) (by simp [results,L,go_sem,z0,z1,z2,z3,z4]) rfl ?_;exact⟨⟨(⟨#[]⟩,0,0,0,⟨#[]⟩),by rw [HR.out]; rfl,fun k hk=>by rw [HR.out] at hk; cases hk⟩,gL B3.out (w.heap.size+1+1) (by omega) _ _ _ _ _⟩
theorem Bg (a b:Cn) (w:World) (hn:a.1=b.1):Calls Y 181 #[cv (r5 a),cv (r5 b)] w (Gg a.1 (eX a.2 b.2) w):=by
 obtain⟨na,ka⟩:=a;obtain⟨nb,kb⟩:=b;cases ka with
 | rg p q =>
  cases kb with
  | rg r t=>exact QO na nb p q r t w
  | tx t=>exact nL na nb _ _ w (Or.inl ⟨rfl,by simp [kN]⟩) hn _ (uK _ _)
  | pr t=>exact nL na nb _ _ w (Or.inl ⟨rfl,by simp [kN]⟩) hn _ (uK _ _)
 | tx s=>exact nL na nb _ _ w (Or.inr (by simp [kN])) hn _ (uK _ _)
 | pr s=>exact nL na nb _ _ w (Or.inr (by simp [kN])) hn _ (uK _ _)
end Pr
namespace Rl
open Go.RowKit Go.Sort Pu Rw Pr Va
theorem mO {n:ByteArray} {r:Option Kd} {b:Bool} {k:Kd} {w w':World} {e:Ending} (hr:r=if b=aj then Z k else U) (he:e=.returned (.tuple #[cv (r5 (n,k)),.bool b])) (h:Below w.heap.size w w'):Gh n r w e w':=by
 subst hr he;exact U6 b k h
theorem XO {s t:ByteArray} (h:t.size<=s.size):eX (.pr s) (.pr t)=if pfx t s=aj then Z (.pr s) else U:=by
 simp only [eX];by_cases h1:pfx s t=aj
 ·rw [if_pos h1];have e1:=(fG _ _).1 h1;have e2:s=t:=mF (e1.eq_of_length_le (by rw [K,K]; exact h));subst e2;rw [if_pos (kZ s)]
 ·rw [if_neg h1]
theorem XQ {s t:ByteArray} (h:¬ t.size<=s.size):eX (.pr s) (.pr t)=if pfx s t=aj then Z (.pr t) else U:=by
 simp only [eX];by_cases h1:pfx s t=aj
 ·rw [if_pos h1,if_pos h1]
 ·have h2:¬ pfx t s=aj:=fun h2=>by
   have:=((fG _ _).1 h2).length_le;rw [K,K] at this;exact h this
  rw [if_neg h1,if_neg h1,if_neg h2]
end Rl
end Go.Proofs.YtmklifheakemeaaGreat
