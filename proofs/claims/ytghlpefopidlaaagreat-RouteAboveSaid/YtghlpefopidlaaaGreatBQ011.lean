/-
  The document's own H. Conditions as told.
-/
import Derived.Test.YtghlpefopidlaaaGreatBQ008
import Derived.Test.YtghlpefopidlaaaGreatBQ001
import Derived.Deep.RegionWith
set_option maxRecDepth 100000
set_option maxHeartbeats 64000000
open _root_.Bool renaming eq_false_or_eq_true->L
open _root_.Go renaming bodyPost_ret->Q,World->ah
open Go.Lib renaming hid->D
open Go.Obj renaming cells->J
open Go.Proofs.Tryz renaming results133->K,ntmps133->V,prog->Y,func133->Z
open _root_.Option renaming none->U,some->aj
namespace Go.Proofs.YtghlpefopidlaaaGreat
namespace Rl
open Go.RowKit Pu Rw Pr Va
end Rl
namespace Pr
open Go.RowKit Go.Sort Pu Rw Va
theorem Wm (w:ah) (c d z:C5):dG (((w.alloc (J (cells5 c).toArray 91)).alloc (J (cells5 d).toArray 91)).alloc (J (cells5 z).toArray 91)) w.heap.size (cells5 c).toArray 91/\dG (((w.alloc (J (cells5 c).toArray 91)).alloc (J (cells5 d).toArray 91)).alloc (J (cells5 z).toArray 91)) (w.heap.size+1) (cells5 d).toArray 91/\dG (((w.alloc (J (cells5 c).toArray 91)).alloc (J (cells5 d).toArray 91)).alloc (J (cells5 z).toArray 91)) (w.heap.size+1+1) (cells5 z).toArray 91/\Below w.heap.size w (((w.alloc (J (cells5 c).toArray 91)).alloc (J (cells5 d).toArray 91)).alloc (J (cells5 z).toArray 91)):=by
 obtain⟨h1,h2,h3⟩:=Li w c d;refine⟨h1.more _,h2.more _,?_,h3.alloc h3.size _⟩;have h:=dO ((w.alloc (J (cells5 c).toArray 91)).alloc (J (cells5 d).toArray 91)) (cells5 z).toArray 91
 rwa [show ((w.alloc (J (cells5 c).toArray 91)).alloc (J (cells5 d).toArray 91)).heap.size=w.heap.size+1+1 by simp] at h
theorem gJ {W:ah} {b:Nat} {c:C5} (h:dG W b (cells5 c).toArray 91):W.cell? ⟨b,0,U⟩=aj (.string c.1)/\W.cell? ⟨b,1,U⟩=aj (.int .i64 c.2.1)/\W.cell? ⟨b,2,U⟩=aj (.int .i64 c.2.2.1)/\W.cell? ⟨b,3,U⟩=aj (.int .i64 c.2.2.2.1)/\W.cell? ⟨b,4,U⟩=aj (.string c.2.2.2.2):=⟨h.cell 0,h.cell 1,h.cell 2,h.cell 3,h.cell 4⟩
theorem jw {B:Nat} {W w:ah} (h:Below B W w) (g:Nat) (hB:B<=g) (v0 v1 v2 v3 v4:Value):Below B W (((((w.setCell ⟨g,0,U⟩ v0).setCell ⟨g,1,U⟩ v1).setCell ⟨g,2,U⟩ v2).setCell ⟨g,3,U⟩ v3).setCell ⟨g,4,U⟩ v4) :=
 ((((h.setCell hB _).setCell hB _).setCell hB _).setCell hB _).setCell hB _
theorem P5 (na nb:ByteArray) (a b c d:Int) (w:ah):Calls Y 133 #[cv (r5 (na,.rg a b)),cv (r5 (nb,.rg c d))] w (GA na (fK (.rg a b) (.rg c d)) w):=by
 obtain⟨ba,bb,bz,hb⟩:=Wm w (r5 (na,.rg a b)) (r5 (nb,.rg c d)) (⟨#[]⟩,0,0,0,⟨#[]⟩);have B:=D hb;have BA:=D ba;have BB:=D bb;have BZ:=D bz;have O:=D (Ci na nb a b c d (((w.alloc (J (cells5 (r5 (na,.rg a b))).toArray 91)).alloc (J (cells5 (r5 (nb,.rg c d))).toArray 91)).alloc (J (cells5 (⟨#[]⟩,0,0,0,⟨#[]⟩)).toArray 91)));generalize fK (.rg a b) (.rg c d)=r at *;clear ba bb bz hb;simp only [r5,kN,mE,mF,kT];go_enter Z,V;go_wp2_with fail;refine O.out.mono ?_;rintro e W2 ⟨⟨x,rfl,hx⟩,hb2⟩;have B2:=D (B.out.trans (hb2.mono B.out.size));have Z2:=D (BZ.out.on hb2);have X:=D hx;obtain⟨z0,z1,z2,z3,z4⟩:=gJ Z2.out;have fz:=fun k=>Z2.out.fr k;simp only at z0 z1 z2 z3 z4;clear hx hb2 O B BA BB BZ;go_wp2;refine Q (v:=.tuple #[cv x,.bool r.isSome]) (by simp [results,K,go_sem,z0,z1,z2,z3,z4]) rfl ?_;exact⟨⟨x,rfl,X.out⟩,jw B2.out (w.heap.size+1+1) (by omega) _ _ _ _ _⟩
theorem nW (na nb:ByteArray) (ka kb:Kd) (w:ah) (hno:(kN ka=1/\kN kb≠1)\/kN ka≠1) (hn:na=nb) (r:Option Kd) (hr:r=if gU ka kb then aj ka else if gU kb ka then aj kb else U):Calls Y 133 #[cv (r5 (na,ka)),cv (r5 (nb,kb))] w (GA na r w):=by
 obtain⟨ba,bb,bz,hb⟩:=Wm w (r5 (na,ka)) (r5 (nb,kb)) (⟨#[]⟩,0,0,0,⟨#[]⟩);have B:=D hb;have BA:=D ba;have BB:=D bb;have BZ:=D bz;have I1:=D (vJ (na,ka) (nb,kb) (((w.alloc (J (cells5 (r5 (na,ka))).toArray 91)).alloc (J (cells5 (r5 (nb,kb))).toArray 91)).alloc (J (cells5 (⟨#[]⟩,0,0,0,⟨#[]⟩)).toArray 91)));have I2:=D (fun W=>vJ (nb,kb) (na,ka) W);obtain⟨i1,e1⟩:∃ i,gU ka kb=i:=⟨_,rfl⟩;obtain⟨i2,e2⟩:∃ i,gU kb ka=i:=⟨_,rfl⟩;simp only [e1] at I1;simp only [e2] at I2;rw [e1,e2] at hr;have HR:=D hr;have NE:=D hn;obtain⟨j1,g1⟩:∃ j,(kN ka == (1:Int))=j:=⟨_,rfl⟩;have g2:j1=true->(kN kb == (1:Int))=false:=fun e=>by
  subst e;rcases hno with⟨_,h⟩|h
  ·exact beq_eq_false_iff_ne.2 h
  ·exact absurd (beq_iff_eq.1 g1) h
 have G2:=D g2;clear ba bb bz hb e1 e2 hn hno g2 hr;simp only [r5] at I1 I2 ⊢;cases j1
 all_goals try have g3:=G2.out rfl
 all_goals
  clear G2;go_enter Z,V;go_wp2_with fail;refine I1.out.mono ?_;rintro e W2 ⟨rfl,hb2⟩;have B2:=D (B.out.trans (hb2.mono B.out.size));have Z2:=D (BZ.out.on hb2);have A2:=D (BA.out.on hb2);have D2:=D (BB.out.on hb2);obtain⟨a0,a1,a2,a3,a4⟩:=gJ A2.out;obtain⟨d0,d1,d2,d3,d4⟩:=gJ D2.out;obtain⟨z0,z1,z2,z3,z4⟩:=gJ Z2.out;have fz:=fun k=>Z2.out.fr k;simp only [r5] at a0 a1 a2 a3 a4 d0 d1 d2 d3 d4;simp only at z0 z1 z2 z3 z4;clear hb2 B BA BB BZ I1;rcases L i1 with rfl|rfl
  ·go_wp2;refine Q (v:=.tuple #[cv (r5 (na,ka)),.bool true]) (by simp [results,K,go_sem,z0,z1,z2,z3,z4,r5]) rfl ?_;exact⟨⟨r5 (na,ka),by rw [HR.out]; rfl,fun k hk=>by rw [HR.out] at hk; rw [<- Option.some.inj hk]⟩,jw B2.out (w.heap.size+1+1) (by omega) _ _ _ _ _⟩
  ·clear a0 a1 a2 a3 a4 d0 d1 d2 d3 d4;obtain⟨a0,a1,a2,a3,a4⟩:=gJ A2.out;obtain⟨d0,d1,d2,d3,d4⟩:=gJ D2.out;simp only [r5] at a0 a1 a2 a3 a4 d0 d1 d2 d3 d4;go_wp2_with fail;refine (I2.out _).mono ?_;rintro e W3 ⟨rfl,hb3⟩;have B3:=D (B2.out.trans (hb3.mono B2.out.size));have Z3:=D (Z2.out.on hb3);have D3:=D (D2.out.on hb3);clear a0 a1 a2 a3 a4 d0 d1 d2 d3 d4 z0 z1 z2 z3 z4 fz;obtain⟨d0,d1,d2,d3,d4⟩:=gJ D3.out;obtain⟨z0,z1,z2,z3,z4⟩:=gJ Z3.out;have fz:=fun k=>Z3.out.fr k;simp only [r5] at d0 d1 d2 d3 d4;simp only at z0 z1 z2 z3 z4;clear hb3 B2 I2 A2 D2 Z2;rcases L i2 with rfl|rfl
   ·go_wp2;refine Q (v:=.tuple #[cv (r5 (nb,kb)),.bool true]) (by simp [results,K,go_sem,z0,z1,z2,z3,z4,r5]) rfl ?_;exact⟨⟨r5 (nb,kb),by rw [HR.out]; rfl,fun k hk=>by rw [HR.out] at hk; rw [NE.out,<- Option.some.inj hk]⟩,jw B3.out (w.heap.size+1+1) (by omega) _ _ _ _ _⟩
   ·go_wp2;refine Q (v:=.tuple #[cv ((⟨#[]⟩,0,0,0,⟨#[]⟩)),.bool false]) (by simp [results,K,go_sem,z0,z1,z2,z3,z4]) rfl ?_;exact⟨⟨(⟨#[]⟩,0,0,0,⟨#[]⟩),by rw [HR.out]; rfl,fun k hk=>by rw [HR.out] at hk; cases hk⟩,jw B3.out (w.heap.size+1+1) (by omega) _ _ _ _ _⟩
theorem Cj (a b:Cn) (w:ah) (hn:a.1=b.1):Calls Y 133 #[cv (r5 a),cv (r5 b)] w (GA a.1 (fK a.2 b.2) w):=by
 obtain⟨na,ka⟩:=a;obtain⟨nb,kb⟩:=b;cases ka with
 | rg p q =>
  cases kb with
  | rg r t=>exact P5 na nb p q r t w
  | tx t=>exact nW na nb _ _ w (Or.inl ⟨rfl,by simp [kN]⟩) hn _ (uP _ _)
  | pr t=>exact nW na nb _ _ w (Or.inl ⟨rfl,by simp [kN]⟩) hn _ (uP _ _)
 | tx s=>exact nW na nb _ _ w (Or.inr (by simp [kN])) hn _ (uP _ _)
 | pr s=>exact nW na nb _ _ w (Or.inr (by simp [kN])) hn _ (uP _ _)
end Pr
namespace Rl
open Go.RowKit Pu Rw Pr Va
end Rl
namespace Rl
open Go.RowKit Go.Sort Pu Rw Pr Va
end Rl
end Go.Proofs.YtghlpefopidlaaaGreat
