/-
  slices.BinarySearch . Conditions as told.
-/
import Derived.Test.YtmklifheakemeaaOQ005
import Derived.BigRegion
import Derived.Test.YtmklifheakemeaaOQ015
import Derived.Deep.RegionWith
set_option maxRecDepth 100000
set_option maxHeartbeats 64000000
open _root_.Go renaming World->U,Calls->au
open Go.Ending renaming returned->V
open Go.Lib renaming hid->D
open Go.Obj renaming cells->J
open Go.Proofs.Try renaming prog->L,results65->Z,ntmps85->ak,func85->ay,results84->aB,ntmps65->aC,func65->aD
open Go.Value renaming string->K,bool->aj,int->aA
open _root_.Option renaming none->Q,some->Y
open Option.some renaming inj->ah
namespace Go.Proofs.Ytmklifheakemeaa
namespace Av
open Go.RowKit Go.Sort Rw Ytmklifheakemeaa.Nm Pr Bk
def tC (near:List Int) (f:Int):Bool:=decide (f∈near) || f == -1
end Av
namespace Pr
open Go.RowKit Go.Sort Pu Rw Va
theorem yV (s:ByteArray) (w:U) :
  au L 95 #[K s] w fun e w'=>e=V (vl true 0 s)/\Below w.heap.size w w':=by
 go_enter Try.func95,Try.ntmps95;go_wp2;exact bodyPost_ret (v:=vl true 0 s) (by simp [results,Try.results95,go_sem]) rfl ⟨rfl,(Below.refl _ _).alloc (Nat.le_refl _) _⟩
theorem uK (s:ByteArray) (w:U) (d:Nat) (os:Array Obj) :
  au L 95 #[K s] (grow (redrawn w d) os) fun e w''=>e=V (vl true 0 s)/\∃ p:Regrown,w''=grow (redrawn w p.d) p.os :=
 Calls.regrown_of (yV _ _)
theorem qX (c:Cn) (s:ByteArray) (r:Bool) (hr:dJ c.2 (true,0,s)=r) (w:U) (d:Nat) (os:Array Obj) :
  au L 94 #[cv (r5 c),vl true 0 s] (grow (redrawn w d) os) fun e w''=>e=V (aj r)/\∃ p:Regrown,w''=grow (redrawn w p.d) p.os:=by
 subst hr;exact Calls.regrown_of (yL _ _ _ _ _)
def fH:Kd->Kd->Bool
 | .pr s,.pr t=>pfx t s
 | .tx s,k=>dJ k (true,0,s)
 | _,_=>false
theorem Bf (w:U) (c d:C5):dz ((w.alloc (J (cells5 c).toArray 56)).alloc (J (cells5 d).toArray 56)) w.heap.size (cells5 c).toArray 56/\dz ((w.alloc (J (cells5 c).toArray 56)).alloc (J (cells5 d).toArray 56)) (w.heap.size+1) (cells5 d).toArray 56/\Below w.heap.size w ((w.alloc (J (cells5 c).toArray 56)).alloc (J (cells5 d).toArray 56)):=by
 refine⟨(dI w _ _).more _,?_,((Below.refl w.heap.size w).alloc (Nat.le_refl _) _).alloc (by simp) _⟩;have h:=dI (w.alloc (J (cells5 c).toArray 56)) (cells5 d).toArray 56
 rwa [show (w.alloc (J (cells5 c).toArray 56)).heap.size=w.heap.size+1 by simp] at h
theorem yX (na nb:ByteArray) (s:ByteArray) (kb:Kd) (w:U):au L 85 #[cv (r5 (na,.tx s)),cv (r5 (nb,kb))] w fun e w'=>e=V (aj (fH (.tx s) kb))/\Below w.heap.size w w':=by
 obtain⟨ba,bb,hb⟩:=Bf w (r5 (na,.tx s)) (r5 (nb,kb));have BA:=D ba;have BB:=D bb;have B:=D hb;have H:=qX (nb,kb) s _ rfl;have C:=uK s;have R:=D (show fH (.tx s) kb=dJ kb (true,0,s) from rfl);generalize fH (.tx s) kb=r at *;simp only [r5] at H ⊢;clear ba bb hb;go_enter ay,ak;go_wp2;have HH:=D H;have CC:=D C;clear H C;change Code.wp _ _ _ _ ((w.alloc (J (cells5 (r5 (na,.tx s))).toArray 56)).alloc (J (cells5 (r5 (nb,kb))).toArray 56));generalize (w.alloc (J (cells5 (r5 (na,.tx s))).toArray 56)).alloc (J (cells5 (r5 (nb,kb))).toArray 56)=W at *;have a4:=cell_regrown (show W.cell? ⟨w.heap.size,4,Q⟩=Y (K s) from BA.out.cell 4);have b0:=cell_regrown (show W.cell? ⟨w.heap.size+1,0,Q⟩=Y (K nb) from BB.out.cell 0);have b1:=cell_regrown (show W.cell? ⟨w.heap.size+1,1,Q⟩=Y (aA .i64 (kN kb)) from BB.out.cell 1);have b2:=cell_regrown (show W.cell? ⟨w.heap.size+1,2,Q⟩=Y (aA .i64 (ko kb)) from BB.out.cell 2);have b3:=cell_regrown (show W.cell? ⟨w.heap.size+1,3,Q⟩=Y (aA .i64 (kr kb)) from BB.out.cell 3);have b4:=cell_regrown (show W.cell? ⟨w.heap.size+1,4,Q⟩=Y (K (kT kb)) from BB.out.cell 4);refine wp_region_quiet_below (by kernel_rfl) (by kernel_rfl) ?_
 repeat (go_big_quiet_step (first | (with_reducible exact CC.out _ _ _) | (with_reducible exact HH.out _ _ _)))
 refine wpQuiet_nil ?_;intro _ hw';obtain⟨⟨dq,osq⟩,hw''⟩:=hw';subst hw'';have BZ:=D (B.out.trans ((below_regrown W dq osq).mono B.out.size));clear a4 b0 b1 b2 b3 b4;go_wp2;go_ret;exact⟨fD R.out.symm,BZ.out⟩
theorem yY (na nb:ByteArray) (s:ByteArray) (t:ByteArray) (w:U):au L 85 #[cv (r5 (na,.pr s)),cv (r5 (nb,.pr t))] w fun e w'=>e=V (aj (fH (.pr s) (.pr t)))/\Below w.heap.size w w':=by
 obtain⟨ba,bb,hb⟩:=Bf w (r5 (na,.pr s)) (r5 (nb,.pr t));have BA:=D ba;have BB:=D bb;have B:=D hb;have H:=qX (nb,.pr t) s _ rfl;have C:=uK s;have R:=D (show fH (.pr s) (.pr t)=dJ (.pr t) (true,0,s) by simp only [fH,dJ,Bool.true_and]);generalize fH (.pr s) (.pr t)=r at *;simp only [r5] at H ⊢;clear ba bb hb;go_enter ay,ak;go_wp2;have HH:=D H;have CC:=D C;clear H C;change Code.wp _ _ _ _ ((w.alloc (J (cells5 (r5 (na,.pr s))).toArray 56)).alloc (J (cells5 (r5 (nb,.pr t))).toArray 56));generalize (w.alloc (J (cells5 (r5 (na,.pr s))).toArray 56)).alloc (J (cells5 (r5 (nb,.pr t))).toArray 56)=W at *;have a4:=cell_regrown (show W.cell? ⟨w.heap.size,4,Q⟩=Y (K s) from BA.out.cell 4);have b0:=cell_regrown (show W.cell? ⟨w.heap.size+1,0,Q⟩=Y (K nb) from BB.out.cell 0);have b1:=cell_regrown (show W.cell? ⟨w.heap.size+1,1,Q⟩=Y (aA .i64 (kN (.pr t))) from BB.out.cell 1);have b2:=cell_regrown (show W.cell? ⟨w.heap.size+1,2,Q⟩=Y (aA .i64 (ko (.pr t))) from BB.out.cell 2);have b3:=cell_regrown (show W.cell? ⟨w.heap.size+1,3,Q⟩=Y (aA .i64 (kr (.pr t))) from BB.out.cell 3);have b4:=cell_regrown (show W.cell? ⟨w.heap.size+1,4,Q⟩=Y (K (kT (.pr t))) from BB.out.cell 4);refine wp_region_quiet_below (by kernel_rfl) (by kernel_rfl) ?_
 repeat (go_big_quiet_step (first | (with_reducible exact CC.out _ _ _) | (with_reducible exact HH.out _ _ _)))
 refine wpQuiet_nil ?_;intro _ hw';obtain⟨⟨dq,osq⟩,hw''⟩:=hw';subst hw'';have BZ:=D (B.out.trans ((below_regrown W dq osq).mono B.out.size));clear a4 b0 b1 b2 b3 b4;go_wp2;go_ret;exact⟨fD R.out.symm,BZ.out⟩
theorem nL (na nb:ByteArray) (ka kb:Kd) (w:U) (h:(∃ lo hi,ka=.rg lo hi)\/(∃ s,ka=.pr s)/\¬ ∃ t,kb=.pr t):au L 85 #[cv (r5 (na,ka)),cv (r5 (nb,kb))] w fun e w'=>e=V (aj (fH ka kb))/\Below w.heap.size w w':=by
 have B:=D (Bf w (r5 (na,ka)) (r5 (nb,kb))).2.2;rcases h with⟨lo,hi,rfl⟩|⟨⟨s,rfl⟩,h⟩
 ·have R:=D (show fH (.rg lo hi) kb=false from rfl);generalize fH (.rg lo hi) kb=r at *;simp only [r5];go_enter ay,ak;go_wp2;go_ret;exact⟨fD R.out.symm,B.out⟩
 ·have R:=D (show fH (.pr s) kb=false by
   cases kb with
   | pr t=>exact absurd ⟨t,rfl⟩ h
   | _=>rfl)
  have e:((kN kb) != (3:Int))=true:=by
   cases kb with
   | pr t=>exact absurd ⟨t,rfl⟩ h
   | _=>rfl
  generalize fH (.pr s) kb=r at *;clear h;simp only [r5];go_enter ay,ak;go_wp2;go_ret;exact⟨fD R.out.symm,B.out⟩
theorem pK (a b:Cn) (w:U):au L 85 #[cv (r5 a),cv (r5 b)] w fun e w'=>e=V (aj (fH a.2 b.2))/\Below w.heap.size w w':=by
 obtain⟨na,ka⟩:=a;obtain⟨nb,kb⟩:=b;cases ka with
 | rg lo hi=>exact nL na nb _ kb w (Or.inl ⟨lo,hi,rfl⟩)
 | tx s=>exact yX na nb s kb w
 | pr s =>
  cases kb with
  | pr t=>exact yY na nb s t w
  | rg lo hi=>exact nL na nb _ _ w (Or.inr ⟨⟨s,rfl⟩,by rintro⟨t,h⟩; cases h⟩)
  | tx t=>exact nL na nb _ _ w (Or.inr ⟨⟨s,rfl⟩,by rintro⟨t',h⟩; cases h⟩)
def xE (n:ByteArray) (r:Option Kd) (w:U) (e:Ending) (w':U):Prop:=(∃ x,e=V (.tuple #[cv x,aj r.isSome])/\∀ k,r=Y k->x=r5 (n,k))/\Below w.heap.size w w'
theorem b3 (w:U) (o p q:Obj):Below w.heap.size w (((w.alloc o).alloc p).alloc q):=(((Below.refl w.heap.size w).alloc (Nat.le_refl _) _).alloc (by simp) _).alloc (by simp; omega) _
theorem uL (na nb:ByteArray) (a b c d:Int) (w:U):au L 84 #[cv (na,1,a,b,⟨#[]⟩),cv (nb,1,c,d,⟨#[]⟩)] w (xE na (fV (.rg a b) (.rg c d)) w):=by
 have R:=D (show fV (.rg a b) (.rg c d)=if max a c<=min b d then Y (.rg (max a c) (min b d)) else Q from rfl);generalize fV (.rg a b) (.rg c d)=r at *;go_enter Try.func84,Try.ntmps84;go_wp2_with fail
 go_region
 have e1:(if a<c then c else a)=max a c:=by split <;> omega
 have e2:(if d<b then d else b)=min b d:=by split <;> omega
 try rw [e1]
 try rw [e2]
 clear e1 e2;generalize max a c=M at R ⊢;generalize min b d=N at R ⊢;by_cases h:M<=N
 ·have h1:¬ N<M:=by omega
  have R2:=D (show r=Y (.rg M N) by rw [R.out,if_pos h]);clear h;go_wp2;refine bodyPost_ret (v:=.tuple #[cv (na,1,M,N,⟨#[]⟩),aj true]) (by simp [results,aB,go_sem]) rfl ?_;refine⟨⟨(na,1,M,N,⟨#[]⟩),by rw [R2.out]; rfl,fun k hk=>?_⟩,(b3 w _ _ _).drew⟩;rw [R2.out] at hk;rw [<- ah hk]
  rfl
 ·have h1:N<M:=by omega
  have R2:=D (show r=Q by rw [R.out,if_neg h]);clear h;go_wp2;refine bodyPost_ret (v:=.tuple #[cv (⟨#[]⟩,0,0,0,⟨#[]⟩),aj false]) (by simp [results,aB,go_sem]) rfl ?_;refine⟨⟨(⟨#[]⟩,0,0,0,⟨#[]⟩),by rw [R2.out]; rfl,fun k hk=>?_⟩,(b3 w _ _ _).drew⟩;rw [R2.out] at hk;cases hk
theorem oF (a b:Kd):fV a b=(match a,b with
 | .rg p q,.rg r t=>if max p r<=min q t then Y (.rg (max p r) (min q t)) else Q
 | a,b=>if fH a b then Y a else if fH b a then Y b else Q):=by
 cases a <;> cases b <;> simp [fV,fH,dJ]
 ·rename_i s t
  by_cases h:s.data=t.data
  ·rw [if_pos h,if_pos h]
  ·rw [if_neg h,if_neg h,if_neg (fun e=>h e.symm)]
 ·rename_i s t
  by_cases h1:pfx s t=true <;> by_cases h2:pfx t s=true <;> simp [h1,h2];have e1:=(dZ _ _).1 h1;have e2:=(dZ _ _).1 h2;rw [oO (e2.eq_of_length_le e1.length_le)]
theorem KO (w:U) (c d z:C5):dz (((w.alloc (J (cells5 c).toArray 56)).alloc (J (cells5 d).toArray 56)).alloc (J (cells5 z).toArray 56)) w.heap.size (cells5 c).toArray 56/\dz (((w.alloc (J (cells5 c).toArray 56)).alloc (J (cells5 d).toArray 56)).alloc (J (cells5 z).toArray 56)) (w.heap.size+1) (cells5 d).toArray 56/\dz (((w.alloc (J (cells5 c).toArray 56)).alloc (J (cells5 d).toArray 56)).alloc (J (cells5 z).toArray 56)) (w.heap.size+1+1) (cells5 z).toArray 56/\Below w.heap.size w (((w.alloc (J (cells5 c).toArray 56)).alloc (J (cells5 d).toArray 56)).alloc (J (cells5 z).toArray 56)):=by
 obtain⟨h1,h2,h3⟩:=Bf w c d;refine⟨h1.more _,h2.more _,?_,h3.alloc h3.size _⟩;have h:=dI ((w.alloc (J (cells5 c).toArray 56)).alloc (J (cells5 d).toArray 56)) (cells5 z).toArray 56
 rwa [show ((w.alloc (J (cells5 c).toArray 56)).alloc (J (cells5 d).toArray 56)).heap.size=w.heap.size+1+1 by simp] at h
theorem gu {W:U} {b:Nat} {c:C5} (h:dz W b (cells5 c).toArray 56):W.cell? ⟨b,0,Q⟩=Y (K c.1)/\W.cell? ⟨b,1,Q⟩=Y (aA .i64 c.2.1)/\W.cell? ⟨b,2,Q⟩=Y (aA .i64 c.2.2.1)/\W.cell? ⟨b,3,Q⟩=Y (aA .i64 c.2.2.2.1)/\W.cell? ⟨b,4,Q⟩=Y (K c.2.2.2.2):=⟨h.cell 0,h.cell 1,h.cell 2,h.cell 3,h.cell 4⟩
theorem iF {B:Nat} {W w:U} (h:Below B W w) (g:Nat) (hB:B<=g) (v0 v1 v2 v3 v4:Value):Below B W (((((w.setCell ⟨g,0,Q⟩ v0).setCell ⟨g,1,Q⟩ v1).setCell ⟨g,2,Q⟩ v2).setCell ⟨g,3,Q⟩ v3).setCell ⟨g,4,Q⟩ v4) :=
 ((((h.setCell hB _).setCell hB _).setCell hB _).setCell hB _).setCell hB _
theorem Fe (na nb:ByteArray) (a b c d:Int) (w:U):au L 65 #[cv (r5 (na,.rg a b)),cv (r5 (nb,.rg c d))] w (xE na (fV (.rg a b) (.rg c d)) w):=by
 obtain⟨ba,bb,bz,hb⟩:=KO w (r5 (na,.rg a b)) (r5 (nb,.rg c d)) (⟨#[]⟩,0,0,0,⟨#[]⟩);have B:=D hb;have BA:=D ba;have BB:=D bb;have BZ:=D bz;have O:=D (uL na nb a b c d (((w.alloc (J (cells5 (r5 (na,.rg a b))).toArray 56)).alloc (J (cells5 (r5 (nb,.rg c d))).toArray 56)).alloc (J (cells5 (⟨#[]⟩,0,0,0,⟨#[]⟩)).toArray 56)));generalize fV (.rg a b) (.rg c d)=r at *;clear ba bb bz hb;simp only [r5,kN,ko,kr,kT];go_enter aD,aC;go_wp2_with fail;refine O.out.mono ?_;rintro e W2 ⟨⟨x,rfl,hx⟩,hb2⟩;have B2:=D (B.out.trans (hb2.mono B.out.size));have Z2:=D (BZ.out.on hb2);have X:=D hx;obtain⟨z0,z1,z2,z3,z4⟩:=gu Z2.out;have fz:=fun k=>Z2.out.fr k;simp only at z0 z1 z2 z3 z4;clear hx hb2 O B BA BB BZ;go_wp2;refine bodyPost_ret (v:=.tuple #[cv x,aj r.isSome]) (by simp [results,Z,go_sem,z0,z1,z2,z3,z4]) rfl ?_;exact⟨⟨x,rfl,X.out⟩,iF B2.out (w.heap.size+1+1) (by omega) _ _ _ _ _⟩
theorem jW (na nb:ByteArray) (ka kb:Kd) (w:U) (hno:(kN ka=1/\kN kb≠1)\/kN ka≠1) (hn:na=nb) (r:Option Kd) (hr:r=if fH ka kb then Y ka else if fH kb ka then Y kb else Q):au L 65 #[cv (r5 (na,ka)),cv (r5 (nb,kb))] w (xE na r w):=by
 obtain⟨ba,bb,bz,hb⟩:=KO w (r5 (na,ka)) (r5 (nb,kb)) (⟨#[]⟩,0,0,0,⟨#[]⟩);have B:=D hb;have BA:=D ba;have BB:=D bb;have BZ:=D bz;have I1:=D (pK (na,ka) (nb,kb) (((w.alloc (J (cells5 (r5 (na,ka))).toArray 56)).alloc (J (cells5 (r5 (nb,kb))).toArray 56)).alloc (J (cells5 (⟨#[]⟩,0,0,0,⟨#[]⟩)).toArray 56)));have I2:=D (fun W=>pK (nb,kb) (na,ka) W);obtain⟨i1,e1⟩:∃ i,fH ka kb=i:=⟨_,rfl⟩;obtain⟨i2,e2⟩:∃ i,fH kb ka=i:=⟨_,rfl⟩;simp only [e1] at I1;simp only [e2] at I2;rw [e1,e2] at hr;have HR:=D hr;have NE:=D hn;obtain⟨j1,g1⟩:∃ j,(kN ka == (1:Int))=j:=⟨_,rfl⟩;have g2:j1=true->(kN kb == (1:Int))=false:=fun e=>by
  subst e;rcases hno with⟨_,h⟩|h
  ·exact beq_eq_false_iff_ne.2 h
  ·exact absurd (beq_iff_eq.1 g1) h
 have G2:=D g2;clear ba bb bz hb e1 e2 hn hno g2 hr;simp only [r5] at I1 I2 ⊢;cases j1
 all_goals try have g3:=G2.out rfl
 all_goals
  clear G2;go_enter aD,aC;go_wp2_with fail;refine I1.out.mono ?_;rintro e W2 ⟨rfl,hb2⟩;have B2:=D (B.out.trans (hb2.mono B.out.size));have Z2:=D (BZ.out.on hb2);have A2:=D (BA.out.on hb2);have D2:=D (BB.out.on hb2);obtain⟨a0,a1,a2,a3,a4⟩:=gu A2.out;obtain⟨d0,d1,d2,d3,d4⟩:=gu D2.out;obtain⟨z0,z1,z2,z3,z4⟩:=gu Z2.out;have fz:=fun k=>Z2.out.fr k;simp only [r5] at a0 a1 a2 a3 a4 d0 d1 d2 d3 d4;simp only at z0 z1 z2 z3 z4;clear hb2 B BA BB BZ I1;rcases Bool.eq_false_or_eq_true i1 with rfl|rfl
  ·go_wp2;refine bodyPost_ret (v:=.tuple #[cv (r5 (na,ka)),aj true]) (by simp [results,Z,go_sem,z0,z1,z2,z3,z4,r5]) rfl ?_;exact⟨⟨r5 (na,ka),by rw [HR.out]; rfl,fun k hk=>by rw [HR.out] at hk; rw [<- ah hk]⟩,iF B2.out (w.heap.size+1+1) (by omega) _ _ _ _ _⟩
  ·clear a0 a1 a2 a3 a4 d0 d1 d2 d3 d4;obtain⟨a0,a1,a2,a3,a4⟩:=gu A2.out;obtain⟨d0,d1,d2,d3,d4⟩:=gu D2.out;simp only [r5] at a0 a1 a2 a3 a4 d0 d1 d2 d3 d4;go_wp2_with fail;refine (I2.out _).mono ?_;rintro e W3 ⟨rfl,hb3⟩;have B3:=D (B2.out.trans (hb3.mono B2.out.size));have Z3:=D (Z2.out.on hb3);have D3:=D (D2.out.on hb3);clear a0 a1 a2 a3 a4 d0 d1 d2 d3 d4 z0 z1 z2 z3 z4 fz;obtain⟨d0,d1,d2,d3,d4⟩:=gu D3.out;obtain⟨z0,z1,z2,z3,z4⟩:=gu Z3.out;have fz:=fun k=>Z3.out.fr k;simp only [r5] at d0 d1 d2 d3 d4;simp only at z0 z1 z2 z3 z4;clear hb3 B2 I2 A2 D2 Z2;rcases Bool.eq_false_or_eq_true i2 with rfl|rfl
   ·go_wp2;refine bodyPost_ret (v:=.tuple #[cv (r5 (nb,kb)),aj true]) (by simp [results,Z,go_sem,z0,z1,z2,z3,z4,r5]) rfl ?_;exact⟨⟨r5 (nb,kb),by rw [HR.out]; rfl,fun k hk=>by rw [HR.out] at hk; rw [NE.out,<- ah hk]⟩,iF B3.out (w.heap.size+1+1) (by omega) _ _ _ _ _⟩
   ·go_wp2;refine bodyPost_ret (v:=.tuple #[cv ((⟨#[]⟩,0,0,0,⟨#[]⟩)),aj false]) (by simp [results,Z,go_sem,z0,z1,z2,z3,z4]) rfl ?_;exact⟨⟨(⟨#[]⟩,0,0,0,⟨#[]⟩),by rw [HR.out]; rfl,fun k hk=>by rw [HR.out] at hk; cases hk⟩,iF B3.out (w.heap.size+1+1) (by omega) _ _ _ _ _⟩
theorem Bg (a b:Cn) (w:U) (hn:a.1=b.1):au L 65 #[cv (r5 a),cv (r5 b)] w (xE a.1 (fV a.2 b.2) w):=by
 obtain⟨na,ka⟩:=a;obtain⟨nb,kb⟩:=b;cases ka with
 | rg p q =>
  cases kb with
  | rg r t=>exact Fe na nb p q r t w
  | tx t=>exact jW na nb _ _ w (Or.inl ⟨rfl,by simp [kN]⟩) hn _ (oF _ _)
  | pr t=>exact jW na nb _ _ w (Or.inl ⟨rfl,by simp [kN]⟩) hn _ (oF _ _)
 | tx s=>exact jW na nb _ _ w (Or.inr (by simp [kN])) hn _ (oF _ _)
 | pr s=>exact jW na nb _ _ w (Or.inr (by simp [kN])) hn _ (oF _ _)
theorem qY {W:U} {b:Nat} {z:C5} (h:dz W b (cells5 z).toArray 56) (x:C5):dz (((((W.setCell ⟨b,0,Q⟩ (K x.1)).setCell ⟨b,1,Q⟩ (aA .i64 x.2.1)).setCell ⟨b,2,Q⟩ (aA .i64 x.2.2.1)).setCell ⟨b,3,Q⟩ (aA .i64 x.2.2.2.1)).setCell ⟨b,4,Q⟩ (K x.2.2.2.2)) b (cells5 x).toArray 56:=by
 have h1:=heap_setCell_same W b 0 _ 56 (K x.1) h;have h2:=heap_setCell_same _ b 1 _ 56 (aA .i64 x.2.1) h1;have h3:=heap_setCell_same _ b 2 _ 56 (aA .i64 x.2.2.1) h2;have h4:=heap_setCell_same _ b 3 _ 56 (aA .i64 x.2.2.2.1) h3;have h5:=heap_setCell_same _ b 4 _ 56 (K x.2.2.2.2) h4;unfold dz;rw [h5];simp [cells5]
end Pr
end Go.Proofs.Ytmklifheakemeaa
