/-
  Holds of package pre. Conditions as told.
-/
import Derived.Test.YtmklifheakemeaaGreatLQ003
import Derived.Test.YtmklifheakemeaaGreatLQ001
import Derived.Lib.Strings
import Derived.Lib.QuietBelow
import Derived.BigQuiet
import Derived.BigRegion
set_option maxRecDepth 100000
set_option maxHeartbeats 64000000
open _root_.Array renaming length_toList->Q
open _root_.Go renaming World->Y,Calls->Z
open Go.Ending renaming returned->J
open Go.Lib renaming hid->D,size_eq->aC
open Go.Obj renaming cells->O
open Go.Proofs.Tryz renaming prog->K,ntmps196->U,func196->X,ntmps190->ah,func190->aj,results189->aA
open Go.Value renaming string->L,bool->V,int->aB
open _root_.Nat renaming le_refl->ak
open _root_.Option renaming some->au,none->ay
namespace Go.Proofs.YtmklifheakemeaaGreat.Pr
open Go.RowKit Go.Sort Pu Rw Va
theorem Je (s p:ByteArray) (w:Y):Z K 201 #[L s,L p] w fun e w'=>e=J (V (pfx p s))/\w'=w:=by
 show Z K _ _ _ fun e w'=>e=J (V (Lib.hasPrefix s.data.toList p.data.toList))/\w'=w;rw [<- Lib.hasPrefix_of_take,<- aC,<- aC];go_enter Tryz.func201,Tryz.ntmps201;go_wp2
 ·rename_i h
  go_ret;refine⟨?_,rfl⟩;show J (V ((s.extract 0 p.size).toList == p.toList))=_;rw [Lib.extract_toList,Lib.toList_data];simp [h]
 ·rename_i h
  go_ret;refine⟨?_,rfl⟩;show J (V false)=_;simp [h]
theorem qc (s p:ByteArray) (w:Y):Z K 200 #[L s,L p] w fun e w'=>e=J (V (pfx p s))/\w'=w:=by
 go_enter Tryz.func200,Tryz.ntmps200;go_wp2_with fail;refine (Je s p w).mono ?_;rintro e w' ⟨rfl,rfl⟩;go_wp2;go_ret;exact⟨rfl,rfl⟩
theorem Qt (s u:ByteArray) (h:s.size=u.size):pfx u s=(s.data.toList == u.data.toList):=by
 have hl:u.data.toList.length=s.data.toList.length:=by rw [Q,Q]; exact h.symm
 rw [Bool.eq_iff_iff,beq_iff_eq,fG];exact⟨fun h1=>(h1.eq_of_length hl).symm,fun h1=>by rw [h1]; exact List.prefix_refl _⟩
theorem KS (s u:ByteArray) (h:¬ s.size=u.size):(s.data.toList == u.data.toList)=false:=by
 rw [beq_eq_false_iff_ne];intro e;have:=congrArg List.length e;rw [Q,Q] at this;exact h this
theorem hB (w:Y) (nm:ByteArray) (k lo hi:Int) (u:ByteArray) (t:Bool) (n:Int) (s:ByteArray):Below w.heap.size w ((w.alloc (O #[L nm,aB .i64 k,aB .i64 lo,aB .i64 hi,L u] 70)).alloc (O #[V t,aB .i64 n,L s] 154)) :=
 ((Below.refl w.heap.size w).alloc (ak _) _).alloc (by simp) _
theorem KT (nm:ByteArray) (lo hi:Int) (t:Bool) (n:Int) (s:ByteArray) (w:Y):Z K 196 #[cv (r5 (nm,.rg lo hi)),vl t n s] w fun e w'=>e=J (V (dR (.rg lo hi) (t,n,s)))/\Below w.heap.size w w':=by
 simp only [r5,kN,iJ,iK,kT];have R:=D (show dR (.rg lo hi) (t,n,s)=(!t && (decide (lo<=n) && decide (n<=hi))) from rfl);have B:=D (hB w nm 1 lo hi ⟨#[]⟩ t n s);generalize dR (.rg lo hi) (t,n,s)=r at *;by_cases h1:lo<=n <;> have H1:=D h1 <;> cases t <;> go_enter X,U <;> go_wp2 <;> go_ret <;> exact⟨dP (by rw [R.out]; have h:=H1.out; simp [h] <;> omega),B.out⟩
theorem KU (nm u:ByteArray) (t:Bool) (n:Int) (s:ByteArray) (w:Y):Z K 196 #[cv (r5 (nm,.tx u)),vl t n s] w fun e w'=>e=J (V (dR (.tx u) (t,n,s)))/\Below w.heap.size w w':=by
 simp only [r5,kN,iJ,iK,kT];have R:=D (show dR (.tx u) (t,n,s)=(t && (s.data.toList == u.data.toList)) from rfl);have B:=D (hB w nm 2 0 0 u t n s);generalize dR (.tx u) (t,n,s)=r at *;by_cases h1:s.size=u.size
 ·have e1:(((s.size:Nat):Int) != ((u.size:Nat):Int))=false:=by simp [h1]
  have E:=D (Qt s u h1);clear h1;cases t
  ·go_enter X,U;go_wp2;go_ret;exact⟨dP (by rw [R.out]; simp),B.out⟩
  ·go_enter X,U;go_wp2_with fail;refine (qc s u _).mono ?_;rintro e w' ⟨rfl,rfl⟩;go_wp2;go_ret;exact⟨dP (by rw [R.out,E.out]; simp),B.out⟩
 ·have e1:(((s.size:Nat):Int) != ((u.size:Nat):Int))=true:=by simp; omega
  have E:=D (KS s u h1);clear h1;go_enter X,U;go_wp2;go_ret;exact⟨dP (by rw [R.out,E.out]; simp),B.out⟩
theorem KW (nm u:ByteArray) (t:Bool) (n:Int) (s:ByteArray) (w:Y):Z K 196 #[cv (r5 (nm,.pr u)),vl t n s] w fun e w'=>e=J (V (dR (.pr u) (t,n,s)))/\Below w.heap.size w w':=by
 simp only [r5,kN,iJ,iK,kT];have R:=D (show dR (.pr u) (t,n,s)=(t && pfx u s) from rfl);have B:=D (hB w nm 3 0 0 u t n s);generalize dR (.pr u) (t,n,s)=r at *;cases t
 ·go_enter X,U;go_wp2;go_ret;exact⟨dP (by rw [R.out]; simp),B.out⟩
 ·go_enter X,U;go_wp2_with fail;refine (qc s u _).mono ?_;rintro e w' ⟨rfl,rfl⟩;go_wp2;go_ret;exact⟨dP (by rw [R.out]; simp),B.out⟩
theorem Jf (c:Cn) (t:Bool) (n:Int) (s:ByteArray) (w:Y):Z K 196 #[cv (r5 c),vl t n s] w fun e w'=>e=J (V (dR c.2 (t,n,s)))/\Below w.heap.size w w':=by
 obtain⟨nm,k⟩:=c;cases k with
 | rg lo hi=>exact KT nm lo hi t n s w
 | tx u=>exact KU nm u t n s w
 | pr u=>exact KW nm u t n s w
theorem Jg (s:ByteArray) (w:Y) :
  Z K 197 #[L s] w fun e w'=>e=J (vl true 0 s)/\Below w.heap.size w w':=by
 go_enter Tryz.func197,Tryz.ntmps197;go_wp2;exact bodyPost_ret (v:=vl true 0 s) (by simp [results,Tryz.results197,go_sem]) rfl ⟨rfl,(Below.refl _ _).alloc (ak _) _⟩
theorem Aw (s:ByteArray) (w:Y) (d:Nat) (os:Array Obj) :
  Z K 197 #[L s] (grow (redrawn w d) os) fun e w''=>e=J (vl true 0 s)/\∃ p:Regrown,w''=grow (redrawn w p.d) p.os :=
 Calls.regrown_of (Jg _ _)
theorem yt (c:Cn) (s:ByteArray) (r:Bool) (hr:dR c.2 (true,0,s)=r) (w:Y) (d:Nat) (os:Array Obj) :
  Z K 196 #[cv (r5 c),vl true 0 s] (grow (redrawn w d) os) fun e w''=>e=J (V r)/\∃ p:Regrown,w''=grow (redrawn w p.d) p.os:=by
 subst hr;exact Calls.regrown_of (Jf _ _ _ _ _)
def gU:Kd->Kd->Bool
 | .pr s,.pr t=>pfx t s
 | .tx s,k=>dR k (true,0,s)
 | _,_=>false
theorem KX (w:Y) (c d:C5):dI ((w.alloc (O (cells5 c).toArray 70)).alloc (O (cells5 d).toArray 70)) w.heap.size (cells5 c).toArray 70/\dI ((w.alloc (O (cells5 c).toArray 70)).alloc (O (cells5 d).toArray 70)) (w.heap.size+1) (cells5 d).toArray 70/\Below w.heap.size w ((w.alloc (O (cells5 c).toArray 70)).alloc (O (cells5 d).toArray 70)):=by
 refine⟨(dL w _ _).more _,?_,((Below.refl w.heap.size w).alloc (ak _) _).alloc (by simp) _⟩;have h:=dL (w.alloc (O (cells5 c).toArray 70)) (cells5 d).toArray 70
 rwa [show (w.alloc (O (cells5 c).toArray 70)).heap.size=w.heap.size+1 by simp] at h
theorem Jh (na nb:ByteArray) (s:ByteArray) (kb:Kd) (w:Y):Z K 190 #[cv (r5 (na,.tx s)),cv (r5 (nb,kb))] w fun e w'=>e=J (V (gU (.tx s) kb))/\Below w.heap.size w w':=by
 obtain⟨ba,bb,hb⟩:=KX w (r5 (na,.tx s)) (r5 (nb,kb));have BA:=D ba;have BB:=D bb;have B:=D hb;have H:=yt (nb,kb) s _ rfl;have C:=Aw s;have R:=D (show gU (.tx s) kb=dR kb (true,0,s) from rfl);generalize gU (.tx s) kb=r at *;simp only [r5] at H ⊢;clear ba bb hb;go_enter aj,ah;go_wp2;have HH:=D H;have CC:=D C;clear H C;change Code.wp _ _ _ _ ((w.alloc (O (cells5 (r5 (na,.tx s))).toArray 70)).alloc (O (cells5 (r5 (nb,kb))).toArray 70));generalize (w.alloc (O (cells5 (r5 (na,.tx s))).toArray 70)).alloc (O (cells5 (r5 (nb,kb))).toArray 70)=W at *;have a4:=cell_regrown (show W.cell? ⟨w.heap.size,4,ay⟩=au (L s) from BA.out.cell 4);have b0:=cell_regrown (show W.cell? ⟨w.heap.size+1,0,ay⟩=au (L nb) from BB.out.cell 0);have b1:=cell_regrown (show W.cell? ⟨w.heap.size+1,1,ay⟩=au (aB .i64 (kN kb)) from BB.out.cell 1);have b2:=cell_regrown (show W.cell? ⟨w.heap.size+1,2,ay⟩=au (aB .i64 (iJ kb)) from BB.out.cell 2);have b3:=cell_regrown (show W.cell? ⟨w.heap.size+1,3,ay⟩=au (aB .i64 (iK kb)) from BB.out.cell 3);have b4:=cell_regrown (show W.cell? ⟨w.heap.size+1,4,ay⟩=au (L (kT kb)) from BB.out.cell 4);refine wp_region_quiet_below (by kernel_rfl) (by kernel_rfl) ?_
 repeat (go_big_quiet_step (first | (with_reducible exact CC.out _ _ _) | (with_reducible exact HH.out _ _ _)))
 refine wpQuiet_nil ?_;intro _ hw';obtain⟨⟨dq,osq⟩,hw''⟩:=hw';subst hw'';have BZ:=D (B.out.trans ((below_regrown W dq osq).mono B.out.size));clear a4 b0 b1 b2 b3 b4;go_wp2;go_ret;exact⟨dP R.out.symm,BZ.out⟩
theorem Ji (na nb:ByteArray) (s:ByteArray) (t:ByteArray) (w:Y):Z K 190 #[cv (r5 (na,.pr s)),cv (r5 (nb,.pr t))] w fun e w'=>e=J (V (gU (.pr s) (.pr t)))/\Below w.heap.size w w':=by
 obtain⟨ba,bb,hb⟩:=KX w (r5 (na,.pr s)) (r5 (nb,.pr t));have BA:=D ba;have BB:=D bb;have B:=D hb;have H:=yt (nb,.pr t) s _ rfl;have C:=Aw s;have R:=D (show gU (.pr s) (.pr t)=dR (.pr t) (true,0,s) by simp only [gU,dR,Bool.true_and]);generalize gU (.pr s) (.pr t)=r at *;simp only [r5] at H ⊢;clear ba bb hb;go_enter aj,ah;go_wp2;have HH:=D H;have CC:=D C;clear H C;change Code.wp _ _ _ _ ((w.alloc (O (cells5 (r5 (na,.pr s))).toArray 70)).alloc (O (cells5 (r5 (nb,.pr t))).toArray 70));generalize (w.alloc (O (cells5 (r5 (na,.pr s))).toArray 70)).alloc (O (cells5 (r5 (nb,.pr t))).toArray 70)=W at *;have a4:=cell_regrown (show W.cell? ⟨w.heap.size,4,ay⟩=au (L s) from BA.out.cell 4);have b0:=cell_regrown (show W.cell? ⟨w.heap.size+1,0,ay⟩=au (L nb) from BB.out.cell 0);have b1:=cell_regrown (show W.cell? ⟨w.heap.size+1,1,ay⟩=au (aB .i64 (kN (.pr t))) from BB.out.cell 1);have b2:=cell_regrown (show W.cell? ⟨w.heap.size+1,2,ay⟩=au (aB .i64 (iJ (.pr t))) from BB.out.cell 2);have b3:=cell_regrown (show W.cell? ⟨w.heap.size+1,3,ay⟩=au (aB .i64 (iK (.pr t))) from BB.out.cell 3);have b4:=cell_regrown (show W.cell? ⟨w.heap.size+1,4,ay⟩=au (L (kT (.pr t))) from BB.out.cell 4);refine wp_region_quiet_below (by kernel_rfl) (by kernel_rfl) ?_
 repeat (go_big_quiet_step (first | (with_reducible exact CC.out _ _ _) | (with_reducible exact HH.out _ _ _)))
 refine wpQuiet_nil ?_;intro _ hw';obtain⟨⟨dq,osq⟩,hw''⟩:=hw';subst hw'';have BZ:=D (B.out.trans ((below_regrown W dq osq).mono B.out.size));clear a4 b0 b1 b2 b3 b4;go_wp2;go_ret;exact⟨dP R.out.symm,BZ.out⟩
theorem rW (na nb:ByteArray) (ka kb:Kd) (w:Y) (h:(∃ lo hi,ka=.rg lo hi)\/(∃ s,ka=.pr s)/\¬ ∃ t,kb=.pr t):Z K 190 #[cv (r5 (na,ka)),cv (r5 (nb,kb))] w fun e w'=>e=J (V (gU ka kb))/\Below w.heap.size w w':=by
 have B:=D (KX w (r5 (na,ka)) (r5 (nb,kb))).2.2;rcases h with⟨lo,hi,rfl⟩|⟨⟨s,rfl⟩,h⟩
 ·have R:=D (show gU (.rg lo hi) kb=false from rfl);generalize gU (.rg lo hi) kb=r at *;simp only [r5];go_enter aj,ah;go_wp2;go_ret;exact⟨dP R.out.symm,B.out⟩
 ·have R:=D (show gU (.pr s) kb=false by
   cases kb with
   | pr t=>exact absurd ⟨t,rfl⟩ h
   | _=>rfl)
  have e:((kN kb) != (3:Int))=true:=by
   cases kb with
   | pr t=>exact absurd ⟨t,rfl⟩ h
   | _=>rfl
  generalize gU (.pr s) kb=r at *;clear h;simp only [r5];go_enter aj,ah;go_wp2;go_ret;exact⟨dP R.out.symm,B.out⟩
theorem vD (a b:Cn) (w:Y):Z K 190 #[cv (r5 a),cv (r5 b)] w fun e w'=>e=J (V (gU a.2 b.2))/\Below w.heap.size w w':=by
 obtain⟨na,ka⟩:=a;obtain⟨nb,kb⟩:=b;cases ka with
 | rg lo hi=>exact rW na nb _ kb w (Or.inl ⟨lo,hi,rfl⟩)
 | tx s=>exact Jh na nb s kb w
 | pr s =>
  cases kb with
  | pr t=>exact Ji na nb s t w
  | rg lo hi=>exact rW na nb _ _ w (Or.inr ⟨⟨s,rfl⟩,by rintro⟨t,h⟩; cases h⟩)
  | tx t=>exact rW na nb _ _ w (Or.inr ⟨⟨s,rfl⟩,by rintro⟨t',h⟩; cases h⟩)
def Gg (n:ByteArray) (r:Option Kd) (w:Y) (e:Ending) (w':Y):Prop:=(∃ x,e=J (.tuple #[cv x,V r.isSome])/\∀ k,r=au k->x=r5 (n,k))/\Below w.heap.size w w'
theorem b3 (w:Y) (o p q:Obj):Below w.heap.size w (((w.alloc o).alloc p).alloc q):=(((Below.refl w.heap.size w).alloc (ak _) _).alloc (by simp) _).alloc (by simp; omega) _
theorem Ay (na nb:ByteArray) (a b c d:Int) (w:Y):Z K 189 #[cv (na,1,a,b,⟨#[]⟩),cv (nb,1,c,d,⟨#[]⟩)] w (Gg na (eX (.rg a b) (.rg c d)) w):=by
 have R:=D (show eX (.rg a b) (.rg c d)=if max a c<=min b d then au (.rg (max a c) (min b d)) else ay from rfl);generalize eX (.rg a b) (.rg c d)=r at *;go_enter Tryz.func189,Tryz.ntmps189;go_wp2_with fail
 go_region
 have e1:(if a<c then c else a)=max a c:=by split <;> omega
 have e2:(if d<b then d else b)=min b d:=by split <;> omega
 try rw [e1]
 try rw [e2]
 clear e1 e2;generalize max a c=M at R ⊢;generalize min b d=N at R ⊢;by_cases h:M<=N
 ·have h1:¬ N<M:=by omega
  have R2:=D (show r=au (.rg M N) by rw [R.out,if_pos h]);clear h;go_wp2;refine bodyPost_ret (v:=.tuple #[cv (na,1,M,N,⟨#[]⟩),V true]) (by simp [results,aA,go_sem]) rfl ?_;refine⟨⟨(na,1,M,N,⟨#[]⟩),by rw [R2.out]; rfl,fun k hk=>?_⟩,(b3 w _ _ _).drew⟩;rw [R2.out] at hk;rw [<- Option.some.inj hk]
  rfl
 ·have h1:N<M:=by omega
  have R2:=D (show r=ay by rw [R.out,if_neg h]);clear h;go_wp2;refine bodyPost_ret (v:=.tuple #[cv (⟨#[]⟩,0,0,0,⟨#[]⟩),V false]) (by simp [results,aA,go_sem]) rfl ?_;refine⟨⟨(⟨#[]⟩,0,0,0,⟨#[]⟩),by rw [R2.out]; rfl,fun k hk=>?_⟩,(b3 w _ _ _).drew⟩;rw [R2.out] at hk;cases hk
theorem uK (a b:Kd):eX a b=(match a,b with
 | .rg p q,.rg r t=>if max p r<=min q t then au (.rg (max p r) (min q t)) else ay
 | a,b=>if gU a b then au a else if gU b a then au b else ay):=by
 cases a <;> cases b <;> simp [eX,gU,dR]
 ·rename_i s t
  by_cases h:s.data=t.data
  ·rw [if_pos h,if_pos h]
  ·rw [if_neg h,if_neg h,if_neg (fun e=>h e.symm)]
 ·rename_i s t
  by_cases h1:pfx s t=true <;> by_cases h2:pfx t s=true <;> simp [h1,h2];have e1:=(fG _ _).1 h1;have e2:=(fG _ _).1 h2;rw [mF (e2.eq_of_length_le e1.length_le)]
end Go.Proofs.YtmklifheakemeaaGreat.Pr
