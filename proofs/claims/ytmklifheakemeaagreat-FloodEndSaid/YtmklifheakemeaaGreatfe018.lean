/-
  Both of package pred. Conditions as told.
-/
import Derived.Test.YtmklifheakemeaaGreatfe012
import Derived.BigRegion
set_option maxRecDepth 100000
set_option maxHeartbeats 64000000
open _root_.Go renaming World->Q,Calls->ay
open Go.Ending renaming returned->L
open Go.Lib renaming hid->D
open Go.Obj renaming cells->J
open Go.Proofs.Tryz renaming prog->K,results181->V,ntmps190->ah,func190->aj,results189->aA,ntmps181->aB,func181->aC
open Go.Value renaming string->Y,bool->au,int->aD
open _root_.Option renaming none->U,some->Z
open Option.some renaming inj->ak
namespace Go.Proofs.YtmklifheakemeaaGreat.Pr
open Go.RowKit Go.Sort Pu Rw Va
theorem Ql (s:ByteArray) (w:Q) :
  ay K 197 #[Y s] w fun e w'=>e=L (vl true 0 s)/\Below w.heap.size w w':=by
 go_enter Tryz.func197,Tryz.ntmps197;go_wp2;exact bodyPost_ret (v:=vl true 0 s) (by simp [results,Tryz.results197,go_sem]) rfl ⟨rfl,(Below.refl _ _).alloc (Nat.le_refl _) _⟩
theorem Iw (s:ByteArray) (w:Q) (d:Nat) (os:Array Obj) :
  ay K 197 #[Y s] (grow (redrawn w d) os) fun e w''=>e=L (vl true 0 s)/\∃ p:Regrown,w''=grow (redrawn w p.d) p.os :=
 Calls.regrown_of (Ql _ _)
theorem D8 (c:Cn) (s:ByteArray) (r:Bool) (hr:eD c.2 (true,0,s)=r) (w:Q) (d:Nat) (os:Array Obj) :
  ay K 196 #[cv (r5 c),vl true 0 s] (grow (redrawn w d) os) fun e w''=>e=L (au r)/\∃ p:Regrown,w''=grow (redrawn w p.d) p.os:=by
 subst hr;exact Calls.regrown_of (Qa _ _ _ _ _)
def iO:Kd->Kd->Bool
 | .pr s,.pr t=>pfx t s
 | .tx s,k=>eD k (true,0,s)
 | _,_=>false
theorem Tx (w:Q) (c d:C5):dK ((w.alloc (J (cells5 c).toArray 70)).alloc (J (cells5 d).toArray 70)) w.heap.size (cells5 c).toArray 70/\dK ((w.alloc (J (cells5 c).toArray 70)).alloc (J (cells5 d).toArray 70)) (w.heap.size+1) (cells5 d).toArray 70/\Below w.heap.size w ((w.alloc (J (cells5 c).toArray 70)).alloc (J (cells5 d).toArray 70)):=by
 refine⟨(dJ w _ _).more _,?_,((Below.refl w.heap.size w).alloc (Nat.le_refl _) _).alloc (by simp) _⟩;have h:=dJ (w.alloc (J (cells5 c).toArray 70)) (cells5 d).toArray 70
 rwa [show (w.alloc (J (cells5 c).toArray 70)).heap.size=w.heap.size+1 by simp] at h
theorem Qm (na nb:ByteArray) (s:ByteArray) (kb:Kd) (w:Q):ay K 190 #[cv (r5 (na,.tx s)),cv (r5 (nb,kb))] w fun e w'=>e=L (au (iO (.tx s) kb))/\Below w.heap.size w w':=by
 obtain⟨ba,bb,hb⟩:=Tx w (r5 (na,.tx s)) (r5 (nb,kb));have BA:=D ba;have BB:=D bb;have B:=D hb;have H:=D8 (nb,kb) s _ rfl;have C:=Iw s;have R:=D (show iO (.tx s) kb=eD kb (true,0,s) from rfl);generalize iO (.tx s) kb=r at *;simp only [r5] at H ⊢;clear ba bb hb;go_enter aj,ah;go_wp2;have HH:=D H;have CC:=D C;clear H C;change Code.wp _ _ _ _ ((w.alloc (J (cells5 (r5 (na,.tx s))).toArray 70)).alloc (J (cells5 (r5 (nb,kb))).toArray 70));generalize (w.alloc (J (cells5 (r5 (na,.tx s))).toArray 70)).alloc (J (cells5 (r5 (nb,kb))).toArray 70)=W at *;have a4:=cell_regrown (show W.cell? ⟨w.heap.size,4,U⟩=Z (Y s) from BA.out.cell 4);have b0:=cell_regrown (show W.cell? ⟨w.heap.size+1,0,U⟩=Z (Y nb) from BB.out.cell 0);have b1:=cell_regrown (show W.cell? ⟨w.heap.size+1,1,U⟩=Z (aD .i64 (kN kb)) from BB.out.cell 1);have b2:=cell_regrown (show W.cell? ⟨w.heap.size+1,2,U⟩=Z (aD .i64 (jF kb)) from BB.out.cell 2);have b3:=cell_regrown (show W.cell? ⟨w.heap.size+1,3,U⟩=Z (aD .i64 (jG kb)) from BB.out.cell 3);have b4:=cell_regrown (show W.cell? ⟨w.heap.size+1,4,U⟩=Z (Y (kT kb)) from BB.out.cell 4);refine wp_region_quiet_below (by kernel_rfl) (by kernel_rfl) ?_
 repeat (go_big_quiet_step (first | (with_reducible exact CC.out _ _ _) | (with_reducible exact HH.out _ _ _)))
 refine wpQuiet_nil ?_;intro _ hw';obtain⟨⟨dq,osq⟩,hw''⟩:=hw';subst hw'';have BZ:=D (B.out.trans ((below_regrown W dq osq).mono B.out.size));clear a4 b0 b1 b2 b3 b4;go_wp2;go_ret;exact⟨eG R.out.symm,BZ.out⟩
theorem Qn (na nb:ByteArray) (s:ByteArray) (t:ByteArray) (w:Q):ay K 190 #[cv (r5 (na,.pr s)),cv (r5 (nb,.pr t))] w fun e w'=>e=L (au (iO (.pr s) (.pr t)))/\Below w.heap.size w w':=by
 obtain⟨ba,bb,hb⟩:=Tx w (r5 (na,.pr s)) (r5 (nb,.pr t));have BA:=D ba;have BB:=D bb;have B:=D hb;have H:=D8 (nb,.pr t) s _ rfl;have C:=Iw s;have R:=D (show iO (.pr s) (.pr t)=eD (.pr t) (true,0,s) by simp only [iO,eD,Bool.true_and]);generalize iO (.pr s) (.pr t)=r at *;simp only [r5] at H ⊢;clear ba bb hb;go_enter aj,ah;go_wp2;have HH:=D H;have CC:=D C;clear H C;change Code.wp _ _ _ _ ((w.alloc (J (cells5 (r5 (na,.pr s))).toArray 70)).alloc (J (cells5 (r5 (nb,.pr t))).toArray 70));generalize (w.alloc (J (cells5 (r5 (na,.pr s))).toArray 70)).alloc (J (cells5 (r5 (nb,.pr t))).toArray 70)=W at *;have a4:=cell_regrown (show W.cell? ⟨w.heap.size,4,U⟩=Z (Y s) from BA.out.cell 4);have b0:=cell_regrown (show W.cell? ⟨w.heap.size+1,0,U⟩=Z (Y nb) from BB.out.cell 0);have b1:=cell_regrown (show W.cell? ⟨w.heap.size+1,1,U⟩=Z (aD .i64 (kN (.pr t))) from BB.out.cell 1);have b2:=cell_regrown (show W.cell? ⟨w.heap.size+1,2,U⟩=Z (aD .i64 (jF (.pr t))) from BB.out.cell 2);have b3:=cell_regrown (show W.cell? ⟨w.heap.size+1,3,U⟩=Z (aD .i64 (jG (.pr t))) from BB.out.cell 3);have b4:=cell_regrown (show W.cell? ⟨w.heap.size+1,4,U⟩=Z (Y (kT (.pr t))) from BB.out.cell 4);refine wp_region_quiet_below (by kernel_rfl) (by kernel_rfl) ?_
 repeat (go_big_quiet_step (first | (with_reducible exact CC.out _ _ _) | (with_reducible exact HH.out _ _ _)))
 refine wpQuiet_nil ?_;intro _ hw';obtain⟨⟨dq,osq⟩,hw''⟩:=hw';subst hw'';have BZ:=D (B.out.trans ((below_regrown W dq osq).mono B.out.size));clear a4 b0 b1 b2 b3 b4;go_wp2;go_ret;exact⟨eG R.out.symm,BZ.out⟩
theorem yF (na nb:ByteArray) (ka kb:Kd) (w:Q) (h:(∃ lo hi,ka=.rg lo hi)\/(∃ s,ka=.pr s)/\¬ ∃ t,kb=.pr t):ay K 190 #[cv (r5 (na,ka)),cv (r5 (nb,kb))] w fun e w'=>e=L (au (iO ka kb))/\Below w.heap.size w w':=by
 have B:=D (Tx w (r5 (na,ka)) (r5 (nb,kb))).2.2;rcases h with⟨lo,hi,rfl⟩|⟨⟨s,rfl⟩,h⟩
 ·have R:=D (show iO (.rg lo hi) kb=false from rfl);generalize iO (.rg lo hi) kb=r at *;simp only [r5];go_enter aj,ah;go_wp2;go_ret;exact⟨eG R.out.symm,B.out⟩
 ·have R:=D (show iO (.pr s) kb=false by
   cases kb with
   | pr t=>exact absurd ⟨t,rfl⟩ h
   | _=>rfl)
  have e:((kN kb) != (3:Int))=true:=by
   cases kb with
   | pr t=>exact absurd ⟨t,rfl⟩ h
   | _=>rfl
  generalize iO (.pr s) kb=r at *;clear h;simp only [r5];go_enter aj,ah;go_wp2;go_ret;exact⟨eG R.out.symm,B.out⟩
theorem Bc (a b:Cn) (w:Q):ay K 190 #[cv (r5 a),cv (r5 b)] w fun e w'=>e=L (au (iO a.2 b.2))/\Below w.heap.size w w':=by
 obtain⟨na,ka⟩:=a;obtain⟨nb,kb⟩:=b;cases ka with
 | rg lo hi=>exact yF na nb _ kb w (Or.inl ⟨lo,hi,rfl⟩)
 | tx s=>exact Qm na nb s kb w
 | pr s =>
  cases kb with
  | pr t=>exact Qn na nb s t w
  | rg lo hi=>exact yF na nb _ _ w (Or.inr ⟨⟨s,rfl⟩,by rintro⟨t,h⟩; cases h⟩)
  | tx t=>exact yF na nb _ _ w (Or.inr ⟨⟨s,rfl⟩,by rintro⟨t',h⟩; cases h⟩)
def Ny (n:ByteArray) (r:Option Kd) (w:Q) (e:Ending) (w':Q):Prop:=(∃ x,e=L (.tuple #[cv x,au r.isSome])/\∀ k,r=Z k->x=r5 (n,k))/\Below w.heap.size w w'
theorem b3 (w:Q) (o p q:Obj):Below w.heap.size w (((w.alloc o).alloc p).alloc q):=(((Below.refl w.heap.size w).alloc (Nat.le_refl _) _).alloc (by simp) _).alloc (by simp; omega) _
theorem Iy (na nb:ByteArray) (a b c d:Int) (w:Q):ay K 189 #[cv (na,1,a,b,⟨#[]⟩),cv (nb,1,c,d,⟨#[]⟩)] w (Ny na (fE (.rg a b) (.rg c d)) w):=by
 have R:=D (show fE (.rg a b) (.rg c d)=if max a c<=min b d then Z (.rg (max a c) (min b d)) else U from rfl);generalize fE (.rg a b) (.rg c d)=r at *;go_enter Tryz.func189,Tryz.ntmps189;go_wp2_with fail
 go_region
 have e1:(if a<c then c else a)=max a c:=by split <;> omega
 have e2:(if d<b then d else b)=min b d:=by split <;> omega
 try rw [e1]
 try rw [e2]
 clear e1 e2;generalize max a c=M at R ⊢;generalize min b d=N at R ⊢;by_cases h:M<=N
 ·have h1:¬ N<M:=by omega
  have R2:=D (show r=Z (.rg M N) by rw [R.out,if_pos h]);clear h;go_wp2;refine bodyPost_ret (v:=.tuple #[cv (na,1,M,N,⟨#[]⟩),au true]) (by simp [results,aA,go_sem]) rfl ?_;refine⟨⟨(na,1,M,N,⟨#[]⟩),by rw [R2.out]; rfl,fun k hk=>?_⟩,(b3 w _ _ _).drew⟩;rw [R2.out] at hk;rw [<- ak hk]
  rfl
 ·have h1:N<M:=by omega
  have R2:=D (show r=U by rw [R.out,if_neg h]);clear h;go_wp2;refine bodyPost_ret (v:=.tuple #[cv (⟨#[]⟩,0,0,0,⟨#[]⟩),au false]) (by simp [results,aA,go_sem]) rfl ?_;refine⟨⟨(⟨#[]⟩,0,0,0,⟨#[]⟩),by rw [R2.out]; rfl,fun k hk=>?_⟩,(b3 w _ _ _).drew⟩;rw [R2.out] at hk;cases hk
theorem zZ (a b:Kd):fE a b=(match a,b with
 | .rg p q,.rg r t=>if max p r<=min q t then Z (.rg (max p r) (min q t)) else U
 | a,b=>if iO a b then Z a else if iO b a then Z b else U):=by
 cases a <;> cases b <;> simp [fE,iO,eD]
 ·rename_i s t
  by_cases h:s.data=t.data
  ·rw [if_pos h,if_pos h]
  ·rw [if_neg h,if_neg h,if_neg (fun e=>h e.symm)]
 ·rename_i s t
  by_cases h1:pfx s t=true <;> by_cases h2:pfx t s=true <;> simp [h1,h2];have e1:=(fU _ _).1 h1;have e2:=(fU _ _).1 h2;rw [qL (e2.eq_of_length_le e1.length_le)]
theorem Iz (w:Q) (c d z:C5):dK (((w.alloc (J (cells5 c).toArray 70)).alloc (J (cells5 d).toArray 70)).alloc (J (cells5 z).toArray 70)) w.heap.size (cells5 c).toArray 70/\dK (((w.alloc (J (cells5 c).toArray 70)).alloc (J (cells5 d).toArray 70)).alloc (J (cells5 z).toArray 70)) (w.heap.size+1) (cells5 d).toArray 70/\dK (((w.alloc (J (cells5 c).toArray 70)).alloc (J (cells5 d).toArray 70)).alloc (J (cells5 z).toArray 70)) (w.heap.size+1+1) (cells5 z).toArray 70/\Below w.heap.size w (((w.alloc (J (cells5 c).toArray 70)).alloc (J (cells5 d).toArray 70)).alloc (J (cells5 z).toArray 70)):=by
 obtain⟨h1,h2,h3⟩:=Tx w c d;refine⟨h1.more _,h2.more _,?_,h3.alloc h3.size _⟩;have h:=dJ ((w.alloc (J (cells5 c).toArray 70)).alloc (J (cells5 d).toArray 70)) (cells5 z).toArray 70
 rwa [show ((w.alloc (J (cells5 c).toArray 70)).alloc (J (cells5 d).toArray 70)).heap.size=w.heap.size+1+1 by simp] at h
theorem fA {W:Q} {b:Nat} {c:C5} (h:dK W b (cells5 c).toArray 70):W.cell? ⟨b,0,U⟩=Z (Y c.1)/\W.cell? ⟨b,1,U⟩=Z (aD .i64 c.2.1)/\W.cell? ⟨b,2,U⟩=Z (aD .i64 c.2.2.1)/\W.cell? ⟨b,3,U⟩=Z (aD .i64 c.2.2.2.1)/\W.cell? ⟨b,4,U⟩=Z (Y c.2.2.2.2):=⟨h.cell 0,h.cell 1,h.cell 2,h.cell 3,h.cell 4⟩
theorem gZ {B:Nat} {W w:Q} (h:Below B W w) (g:Nat) (hB:B<=g) (v0 v1 v2 v3 v4:Value):Below B W (((((w.setCell ⟨g,0,U⟩ v0).setCell ⟨g,1,U⟩ v1).setCell ⟨g,2,U⟩ v2).setCell ⟨g,3,U⟩ v3).setCell ⟨g,4,U⟩ v4) :=
 ((((h.setCell hB _).setCell hB _).setCell hB _).setCell hB _).setCell hB _
theorem YF (na nb:ByteArray) (a b c d:Int) (w:Q):ay K 181 #[cv (r5 (na,.rg a b)),cv (r5 (nb,.rg c d))] w (Ny na (fE (.rg a b) (.rg c d)) w):=by
 obtain⟨ba,bb,bz,hb⟩:=Iz w (r5 (na,.rg a b)) (r5 (nb,.rg c d)) (⟨#[]⟩,0,0,0,⟨#[]⟩);have B:=D hb;have BA:=D ba;have BB:=D bb;have BZ:=D bz;have O:=D (Iy na nb a b c d (((w.alloc (J (cells5 (r5 (na,.rg a b))).toArray 70)).alloc (J (cells5 (r5 (nb,.rg c d))).toArray 70)).alloc (J (cells5 (⟨#[]⟩,0,0,0,⟨#[]⟩)).toArray 70)));generalize fE (.rg a b) (.rg c d)=r at *;clear ba bb bz hb;simp only [r5,kN,jF,jG,kT];go_enter aC,aB;go_wp2_with fail;refine O.out.mono ?_;rintro e W2 ⟨⟨x,rfl,hx⟩,hb2⟩;have B2:=D (B.out.trans (hb2.mono B.out.size));have Z2:=D (BZ.out.on hb2);have X:=D hx;obtain⟨z0,z1,z2,z3,z4⟩:=fA Z2.out;have fz:=fun k=>Z2.out.fr k;simp only at z0 z1 z2 z3 z4;clear hx hb2 O B BA BB BZ;go_wp2;refine bodyPost_ret (v:=.tuple #[cv x,au r.isSome]) (by simp [results,V,go_sem,z0,z1,z2,z3,z4]) rfl ?_;exact⟨⟨x,rfl,X.out⟩,gZ B2.out (w.heap.size+1+1) (by omega) _ _ _ _ _⟩
theorem rZ (na nb:ByteArray) (ka kb:Kd) (w:Q) (hno:(kN ka=1/\kN kb≠1)\/kN ka≠1) (hn:na=nb) (r:Option Kd) (hr:r=if iO ka kb then Z ka else if iO kb ka then Z kb else U):ay K 181 #[cv (r5 (na,ka)),cv (r5 (nb,kb))] w (Ny na r w):=by
 obtain⟨ba,bb,bz,hb⟩:=Iz w (r5 (na,ka)) (r5 (nb,kb)) (⟨#[]⟩,0,0,0,⟨#[]⟩);have B:=D hb;have BA:=D ba;have BB:=D bb;have BZ:=D bz;have I1:=D (Bc (na,ka) (nb,kb) (((w.alloc (J (cells5 (r5 (na,ka))).toArray 70)).alloc (J (cells5 (r5 (nb,kb))).toArray 70)).alloc (J (cells5 (⟨#[]⟩,0,0,0,⟨#[]⟩)).toArray 70)));have I2:=D (fun W=>Bc (nb,kb) (na,ka) W);obtain⟨i1,e1⟩:∃ i,iO ka kb=i:=⟨_,rfl⟩;obtain⟨i2,e2⟩:∃ i,iO kb ka=i:=⟨_,rfl⟩;simp only [e1] at I1;simp only [e2] at I2;rw [e1,e2] at hr;have HR:=D hr;have NE:=D hn;obtain⟨j1,g1⟩:∃ j,(kN ka == (1:Int))=j:=⟨_,rfl⟩;have g2:j1=true->(kN kb == (1:Int))=false:=fun e=>by
  subst e;rcases hno with⟨_,h⟩|h
  ·exact beq_eq_false_iff_ne.2 h
  ·exact absurd (beq_iff_eq.1 g1) h
 have G2:=D g2;clear ba bb bz hb e1 e2 hn hno g2 hr;simp only [r5] at I1 I2 ⊢;cases j1
 all_goals try have g3:=G2.out rfl
 all_goals
  clear G2;go_enter aC,aB;go_wp2_with fail;refine I1.out.mono ?_;rintro e W2 ⟨rfl,hb2⟩;have B2:=D (B.out.trans (hb2.mono B.out.size));have Z2:=D (BZ.out.on hb2);have A2:=D (BA.out.on hb2);have D2:=D (BB.out.on hb2);obtain⟨a0,a1,a2,a3,a4⟩:=fA A2.out;obtain⟨d0,d1,d2,d3,d4⟩:=fA D2.out;obtain⟨z0,z1,z2,z3,z4⟩:=fA Z2.out;have fz:=fun k=>Z2.out.fr k;simp only [r5] at a0 a1 a2 a3 a4 d0 d1 d2 d3 d4;simp only at z0 z1 z2 z3 z4;clear hb2 B BA BB BZ I1;rcases Bool.eq_false_or_eq_true i1 with rfl|rfl
  ·go_wp2;refine bodyPost_ret (v:=.tuple #[cv (r5 (na,ka)),au true]) (by simp [results,V,go_sem,z0,z1,z2,z3,z4,r5]) rfl ?_;exact⟨⟨r5 (na,ka),by rw [HR.out]; rfl,fun k hk=>by rw [HR.out] at hk; rw [<- ak hk]⟩,gZ B2.out (w.heap.size+1+1) (by omega) _ _ _ _ _⟩
  ·clear a0 a1 a2 a3 a4 d0 d1 d2 d3 d4;obtain⟨a0,a1,a2,a3,a4⟩:=fA A2.out;obtain⟨d0,d1,d2,d3,d4⟩:=fA D2.out;simp only [r5] at a0 a1 a2 a3 a4 d0 d1 d2 d3 d4;go_wp2_with fail;refine (I2.out _).mono ?_;rintro e W3 ⟨rfl,hb3⟩;have B3:=D (B2.out.trans (hb3.mono B2.out.size));have Z3:=D (Z2.out.on hb3);have D3:=D (D2.out.on hb3);clear a0 a1 a2 a3 a4 d0 d1 d2 d3 d4 z0 z1 z2 z3 z4 fz;obtain⟨d0,d1,d2,d3,d4⟩:=fA D3.out;obtain⟨z0,z1,z2,z3,z4⟩:=fA Z3.out;have fz:=fun k=>Z3.out.fr k;simp only [r5] at d0 d1 d2 d3 d4;simp only at z0 z1 z2 z3 z4;clear hb3 B2 I2 A2 D2 Z2;rcases Bool.eq_false_or_eq_true i2 with rfl|rfl
   ·go_wp2;refine bodyPost_ret (v:=.tuple #[cv (r5 (nb,kb)),au true]) (by simp [results,V,go_sem,z0,z1,z2,z3,z4,r5]) rfl ?_;exact⟨⟨r5 (nb,kb),by rw [HR.out]; rfl,fun k hk=>by rw [HR.out] at hk; rw [NE.out,<- ak hk]⟩,gZ B3.out (w.heap.size+1+1) (by omega) _ _ _ _ _⟩
   ·go_wp2;refine bodyPost_ret (v:=.tuple #[cv ((⟨#[]⟩,0,0,0,⟨#[]⟩)),au false]) (by simp [results,V,go_sem,z0,z1,z2,z3,z4]) rfl ?_;exact⟨⟨(⟨#[]⟩,0,0,0,⟨#[]⟩),by rw [HR.out]; rfl,fun k hk=>by rw [HR.out] at hk; cases hk⟩,gZ B3.out (w.heap.size+1+1) (by omega) _ _ _ _ _⟩
theorem IC (a b:Cn) (w:Q) (hn:a.1=b.1):ay K 181 #[cv (r5 a),cv (r5 b)] w (Ny a.1 (fE a.2 b.2) w):=by
 obtain⟨na,ka⟩:=a;obtain⟨nb,kb⟩:=b;cases ka with
 | rg p q =>
  cases kb with
  | rg r t=>exact YF na nb p q r t w
  | tx t=>exact rZ na nb _ _ w (Or.inl ⟨rfl,by simp [kN]⟩) hn _ (zZ _ _)
  | pr t=>exact rZ na nb _ _ w (Or.inl ⟨rfl,by simp [kN]⟩) hn _ (zZ _ _)
 | tx s=>exact rZ na nb _ _ w (Or.inr (by simp [kN])) hn _ (zZ _ _)
 | pr s=>exact rZ na nb _ _ w (Or.inr (by simp [kN])) hn _ (zZ _ _)
end Go.Proofs.YtmklifheakemeaaGreat.Pr
