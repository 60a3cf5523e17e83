/-
  Both of package pred. Conditions as told.
-/
import Derived.Test.YtghlpefopidlaaaGreatCQ010
import Derived.Test.YtghlpefopidlaaaGreatCQ013
import Derived.Test.YtghlpefopidlaaaGreatCQ001
import Derived.Deep.RegionWith
set_option maxRecDepth 100000
set_option maxHeartbeats 64000000
open _root_.Bool renaming eq_false_or_eq_true->L
open Go.Lib renaming hid->D
open Go.Obj renaming cells->J
open Go.Proofs.Tryz renaming results133->K,ntmps133->U,prog->V,func133->Y
open _root_.Option renaming none->Q,some->Z
namespace Go.Proofs.YtghlpefopidlaaaGreat
namespace Pr
open Go.RowKit Go.Sort Pu Rw Va
theorem MX (w:World) (c d z:C5):cZ (((w.alloc (J (cells5 c).toArray 91)).alloc (J (cells5 d).toArray 91)).alloc (J (cells5 z).toArray 91)) w.heap.size (cells5 c).toArray 91/\cZ (((w.alloc (J (cells5 c).toArray 91)).alloc (J (cells5 d).toArray 91)).alloc (J (cells5 z).toArray 91)) (w.heap.size+1) (cells5 d).toArray 91/\cZ (((w.alloc (J (cells5 c).toArray 91)).alloc (J (cells5 d).toArray 91)).alloc (J (cells5 z).toArray 91)) (w.heap.size+1+1) (cells5 z).toArray 91/\Below w.heap.size w (((w.alloc (J (cells5 c).toArray 91)).alloc (J (cells5 d).toArray 91)).alloc (J (cells5 z).toArray 91)):=by
 obtain⟨h1,h2,h3⟩:=DN w c d;refine⟨h1.more _,h2.more _,?_,h3.alloc h3.size _⟩;have h:=dG ((w.alloc (J (cells5 c).toArray 91)).alloc (J (cells5 d).toArray 91)) (cells5 z).toArray 91
 rwa [show ((w.alloc (J (cells5 c).toArray 91)).alloc (J (cells5 d).toArray 91)).heap.size=w.heap.size+1+1 by simp] at h
theorem fC {W:World} {b:Nat} {c:C5} (h:cZ W b (cells5 c).toArray 91):W.cell? ⟨b,0,Q⟩=Z (.string c.1)/\W.cell? ⟨b,1,Q⟩=Z (.int .i64 c.2.1)/\W.cell? ⟨b,2,Q⟩=Z (.int .i64 c.2.2.1)/\W.cell? ⟨b,3,Q⟩=Z (.int .i64 c.2.2.2.1)/\W.cell? ⟨b,4,Q⟩=Z (.string c.2.2.2.2):=⟨h.cell 0,h.cell 1,h.cell 2,h.cell 3,h.cell 4⟩
theorem gZ {B:Nat} {W w:World} (h:Below B W w) (g:Nat) (hB:B<=g) (v0 v1 v2 v3 v4:Value):Below B W (((((w.setCell ⟨g,0,Q⟩ v0).setCell ⟨g,1,Q⟩ v1).setCell ⟨g,2,Q⟩ v2).setCell ⟨g,3,Q⟩ v3).setCell ⟨g,4,Q⟩ v4) :=
 ((((h.setCell hB _).setCell hB _).setCell hB _).setCell hB _).setCell hB _
theorem Ib (na nb:ByteArray) (a b c d:Int) (w:World):Calls V 133 #[cv (r5 (na,.rg a b)),cv (r5 (nb,.rg c d))] w (zK na (fE (.rg a b) (.rg c d)) w):=by
 obtain⟨ba,bb,bz,hb⟩:=MX w (r5 (na,.rg a b)) (r5 (nb,.rg c d)) (⟨#[]⟩,0,0,0,⟨#[]⟩);have B:=D hb;have BA:=D ba;have BB:=D bb;have BZ:=D bz;have O:=D (wC na nb a b c d (((w.alloc (J (cells5 (r5 (na,.rg a b))).toArray 91)).alloc (J (cells5 (r5 (nb,.rg c d))).toArray 91)).alloc (J (cells5 (⟨#[]⟩,0,0,0,⟨#[]⟩)).toArray 91)));generalize fE (.rg a b) (.rg c d)=r at *;clear ba bb bz hb;simp only [r5,kN,mI,mJ,kT];go_enter Y,U;go_wp2_with fail;refine O.out.mono ?_;rintro e W2 ⟨⟨x,rfl,hx⟩,hb2⟩;have B2:=D (B.out.trans (hb2.mono B.out.size));have Z2:=D (BZ.out.on hb2);have X:=D hx;obtain⟨z0,z1,z2,z3,z4⟩:=fC Z2.out;have fz:=fun k=>Z2.out.fr k;simp only at z0 z1 z2 z3 z4;clear hx hb2 O B BA BB BZ;go_wp2;refine bodyPost_ret (v:=.tuple #[cv x,.bool r.isSome]) (by simp [results,K,go_sem,z0,z1,z2,z3,z4]) rfl ?_;exact⟨⟨x,rfl,X.out⟩,gZ B2.out (w.heap.size+1+1) (by omega) _ _ _ _ _⟩
theorem kP (na nb:ByteArray) (ka kb:Kd) (w:World) (hno:(kN ka=1/\kN kb≠1)\/kN ka≠1) (hn:na=nb) (r:Option Kd) (hr:r=if fG ka kb then Z ka else if fG kb ka then Z kb else Q):Calls V 133 #[cv (r5 (na,ka)),cv (r5 (nb,kb))] w (zK na r w):=by
 obtain⟨ba,bb,bz,hb⟩:=MX w (r5 (na,ka)) (r5 (nb,kb)) (⟨#[]⟩,0,0,0,⟨#[]⟩);have B:=D hb;have BA:=D ba;have BB:=D bb;have BZ:=D bz;have I1:=D (qF (na,ka) (nb,kb) (((w.alloc (J (cells5 (r5 (na,ka))).toArray 91)).alloc (J (cells5 (r5 (nb,kb))).toArray 91)).alloc (J (cells5 (⟨#[]⟩,0,0,0,⟨#[]⟩)).toArray 91)));have I2:=D (fun W=>qF (nb,kb) (na,ka) W);obtain⟨i1,e1⟩:∃ i,fG ka kb=i:=⟨_,rfl⟩;obtain⟨i2,e2⟩:∃ i,fG kb ka=i:=⟨_,rfl⟩;simp only [e1] at I1;simp only [e2] at I2;rw [e1,e2] at hr;have HR:=D hr;have NE:=D hn;obtain⟨j1,g1⟩:∃ j,(kN ka == (1:Int))=j:=⟨_,rfl⟩;have g2:j1=true->(kN kb == (1:Int))=false:=fun e=>by
  subst e;rcases hno with⟨_,h⟩|h
  ·exact beq_eq_false_iff_ne.2 h
  ·exact absurd (beq_iff_eq.1 g1) h
 have G2:=D g2;clear ba bb bz hb e1 e2 hn hno g2 hr;simp only [r5] at I1 I2 ⊢;cases j1
 all_goals try have g3:=G2.out rfl
 all_goals
  clear G2;go_enter Y,U;go_wp2_with fail;refine I1.out.mono ?_;rintro e W2 ⟨rfl,hb2⟩;have B2:=D (B.out.trans (hb2.mono B.out.size));have Z2:=D (BZ.out.on hb2);have A2:=D (BA.out.on hb2);have D2:=D (BB.out.on hb2);obtain⟨a0,a1,a2,a3,a4⟩:=fC A2.out;obtain⟨d0,d1,d2,d3,d4⟩:=fC D2.out;obtain⟨z0,z1,z2,z3,z4⟩:=fC Z2.out;have fz:=fun k=>Z2.out.fr k;simp only [r5] at a0 a1 a2 a3 a4 d0 d1 d2 d3 d4;simp only at z0 z1 z2 z3 z4;clear hb2 B BA BB BZ I1;rcases L i1 with rfl|rfl
  ·go_wp2;refine bodyPost_ret (v:=.tuple #[cv (r5 (na,ka)),.bool true]) (by simp [results,K,go_sem,z0,z1,z2,z3,z4,r5]) rfl ?_;exact⟨⟨r5 (na,ka),by rw [HR.out]; rfl,fun k hk=>by rw [HR.out] at hk; rw [<- Option.some.inj hk]⟩,gZ B2.out (w.heap.size+1+1) (by omega) _ _ _ _ _⟩
  ·clear a0 a1 a2 a3 a4 d0 d1 d2 d3 d4;obtain⟨a0,a1,a2,a3,a4⟩:=fC A2.out;obtain⟨d0,d1,d2,d3,d4⟩:=fC D2.out;simp only [r5] at a0 a1 a2 a3 a4 d0 d1 d2 d3 d4;go_wp2_with fail;refine (I2.out _).mono ?_;rintro e W3 ⟨rfl,hb3⟩;have B3:=D (B2.out.trans (hb3.mono B2.out.size));have Z3:=D (Z2.out.on hb3);have D3:=D (D2.out.on hb3);clear a0 a1 a2 a3 a4 d0 d1 d2 d3 d4 z0 z1 z2 z3 z4 fz;obtain⟨d0,d1,d2,d3,d4⟩:=fC D3.out;obtain⟨z0,z1,z2,z3,z4⟩:=fC Z3.out;have fz:=fun k=>Z3.out.fr k;simp only [r5] at d0 d1 d2 d3 d4;simp only at z0 z1 z2 z3 z4;clear hb3 B2 I2 A2 D2 Z2;rcases L i2 with rfl|rfl
   ·go_wp2;refine bodyPost_ret (v:=.tuple #[cv (r5 (nb,kb)),.bool true]) (by simp [results,K,go_sem,z0,z1,z2,z3,z4,r5]) rfl ?_;exact⟨⟨r5 (nb,kb),by rw [HR.out]; rfl,fun k hk=>by rw [HR.out] at hk; rw [NE.out,<- Option.some.inj hk]⟩,gZ B3.out (w.heap.size+1+1) (by omega) _ _ _ _ _⟩
   ·go_wp2;refine bodyPost_ret (v:=.tuple #[cv ((⟨#[]⟩,0,0,0,⟨#[]⟩)),.bool false]) (by simp [results,K,go_sem,z0,z1,z2,z3,z4]) rfl ?_;exact⟨⟨(⟨#[]⟩,0,0,0,⟨#[]⟩),by rw [HR.out]; rfl,fun k hk=>by rw [HR.out] at hk; cases hk⟩,gZ B3.out (w.heap.size+1+1) (by omega) _ _ _ _ _⟩
theorem wN (a b:Cn) (w:World) (hn:a.1=b.1):Calls V 133 #[cv (r5 a),cv (r5 b)] w (zK a.1 (fE a.2 b.2) w):=by
 obtain⟨na,ka⟩:=a;obtain⟨nb,kb⟩:=b;cases ka with
 | rg p q =>
  cases kb with
  | rg r t=>exact Ib na nb p q r t w
  | tx t=>exact kP na nb _ _ w (Or.inl ⟨rfl,by simp [kN]⟩) hn _ (qj _ _)
  | pr t=>exact kP na nb _ _ w (Or.inl ⟨rfl,by simp [kN]⟩) hn _ (qj _ _)
 | tx s=>exact kP na nb _ _ w (Or.inr (by simp [kN])) hn _ (qj _ _)
 | pr s=>exact kP na nb _ _ w (Or.inr (by simp [kN])) hn _ (qj _ _)
end Pr
namespace Rl
open Go.RowKit Go.Sort Pu Rw Pr Va
end Rl
end Go.Proofs.YtghlpefopidlaaaGreat
