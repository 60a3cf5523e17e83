/-
  Holds of package pre. Conditions as told.
-/
import Derived.Test.YtmklifheakemeaaVQ007
import Derived.Test.YtmklifheakemeaaVQ005
import Derived.Lib.Strings
import Derived.Lib.QuietBelow
import Derived.BigQuiet
import Derived.BigRegion
set_option maxRecDepth 100000
set_option maxHeartbeats 64000000
open _root_.Array renaming length_toList->Q
open _root_.Go renaming World->V,Calls->Z
open Go.Ending renaming returned->J
open Go.Lib renaming hid->D,size_eq->aC
open Go.Obj renaming cells->O
open Go.Proofs.Try renaming prog->K,ntmps94->X,func94->Y,ntmps85->aj,func85->au,results84->aA
open Go.Value renaming string->L,bool->U,int->aB
open _root_.Nat renaming le_refl->ah
open _root_.Option renaming some->ak,none->ay
namespace Go.Proofs.Ytmklifheakemeaa.Pr
open Go.RowKit Go.Sort Pu Rw Va
theorem CK (s p:ByteArray) (w:V):Z K 100 #[L s,L p] w fun e w'=>e=J (U (pfx p s))/\w'=w:=by
 show Z K _ _ _ fun e w'=>e=J (U (Lib.hasPrefix s.data.toList p.data.toList))/\w'=w;rw [<- Lib.hasPrefix_of_take,<- aC,<- aC];go_enter Try.func100,Try.ntmps100;go_wp2
 ·rename_i h
  go_ret;refine⟨?_,rfl⟩;show J (U ((s.extract 0 p.size).toList == p.toList))=_;rw [Lib.extract_toList,Lib.toList_data];simp [h]
 ·rename_i h
  go_ret;refine⟨?_,rfl⟩;show J (U false)=_;simp [h]
theorem oD (s p:ByteArray) (w:V):Z K 99 #[L s,L p] w fun e w'=>e=J (U (pfx p s))/\w'=w:=by
 go_enter Try.func99,Try.ntmps99;go_wp2_with fail;refine (CK s p w).mono ?_;rintro e w' ⟨rfl,rfl⟩;go_wp2;go_ret;exact⟨rfl,rfl⟩
theorem Iz (s u:ByteArray) (h:s.size=u.size):pfx u s=(s.data.toList == u.data.toList):=by
 have hl:u.data.toList.length=s.data.toList.length:=by rw [Q,Q]; exact h.symm
 rw [Bool.eq_iff_iff,beq_iff_eq,eU];exact⟨fun h1=>(h1.eq_of_length hl).symm,fun h1=>by rw [h1]; exact List.prefix_refl _⟩
theorem EP (s u:ByteArray) (h:¬ s.size=u.size):(s.data.toList == u.data.toList)=false:=by
 rw [beq_eq_false_iff_ne];intro e;have:=congrArg List.length e;rw [Q,Q] at this;exact h this
theorem hB (w:V) (nm:ByteArray) (k lo hi:Int) (u:ByteArray) (t:Bool) (n:Int) (s:ByteArray):Below w.heap.size w ((w.alloc (O #[L nm,aB .i64 k,aB .i64 lo,aB .i64 hi,L u] 56)).alloc (O #[U t,aB .i64 n,L s] 134)) :=
 ((Below.refl w.heap.size w).alloc (ah _) _).alloc (by simp) _
theorem ER (nm:ByteArray) (lo hi:Int) (t:Bool) (n:Int) (s:ByteArray) (w:V):Z K 94 #[cv (r5 (nm,.rg lo hi)),vl t n s] w fun e w'=>e=J (U (dP (.rg lo hi) (t,n,s)))/\Below w.heap.size w w':=by
 simp only [r5,kN,mE,mF,kT];have R:=D (show dP (.rg lo hi) (t,n,s)=(!t && (decide (lo<=n) && decide (n<=hi))) from rfl);have B:=D (hB w nm 1 lo hi ⟨#[]⟩ t n s);generalize dP (.rg lo hi) (t,n,s)=r at *;by_cases h1:lo<=n <;> have H1:=D h1 <;> cases t <;> go_enter Y,X <;> go_wp2 <;> go_ret <;> exact⟨fZ (by rw [R.out]; have h:=H1.out; simp [h] <;> omega),B.out⟩
theorem EX (nm u:ByteArray) (t:Bool) (n:Int) (s:ByteArray) (w:V):Z K 94 #[cv (r5 (nm,.tx u)),vl t n s] w fun e w'=>e=J (U (dP (.tx u) (t,n,s)))/\Below w.heap.size w w':=by
 simp only [r5,kN,mE,mF,kT];have R:=D (show dP (.tx u) (t,n,s)=(t && (s.data.toList == u.data.toList)) from rfl);have B:=D (hB w nm 2 0 0 u t n s);generalize dP (.tx u) (t,n,s)=r at *;by_cases h1:s.size=u.size
 ·have e1:(((s.size:Nat):Int) != ((u.size:Nat):Int))=false:=by simp [h1]
  have E:=D (Iz s u h1);clear h1;cases t
  ·go_enter Y,X;go_wp2;go_ret;exact⟨fZ (by rw [R.out]; simp),B.out⟩
  ·go_enter Y,X;go_wp2_with fail;refine (oD s u _).mono ?_;rintro e w' ⟨rfl,rfl⟩;go_wp2;go_ret;exact⟨fZ (by rw [R.out,E.out]; simp),B.out⟩
 ·have e1:(((s.size:Nat):Int) != ((u.size:Nat):Int))=true:=by simp; omega
  have E:=D (EP s u h1);clear h1;go_enter Y,X;go_wp2;go_ret;exact⟨fZ (by rw [R.out,E.out]; simp),B.out⟩
theorem EY (nm u:ByteArray) (t:Bool) (n:Int) (s:ByteArray) (w:V):Z K 94 #[cv (r5 (nm,.pr u)),vl t n s] w fun e w'=>e=J (U (dP (.pr u) (t,n,s)))/\Below w.heap.size w w':=by
 simp only [r5,kN,mE,mF,kT];have R:=D (show dP (.pr u) (t,n,s)=(t && pfx u s) from rfl);have B:=D (hB w nm 3 0 0 u t n s);generalize dP (.pr u) (t,n,s)=r at *;cases t
 ·go_enter Y,X;go_wp2;go_ret;exact⟨fZ (by rw [R.out]; simp),B.out⟩
 ·go_enter Y,X;go_wp2_with fail;refine (oD s u _).mono ?_;rintro e w' ⟨rfl,rfl⟩;go_wp2;go_ret;exact⟨fZ (by rw [R.out]; simp),B.out⟩
theorem CU (c:Cn) (t:Bool) (n:Int) (s:ByteArray) (w:V):Z K 94 #[cv (r5 c),vl t n s] w fun e w'=>e=J (U (dP c.2 (t,n,s)))/\Below w.heap.size w w':=by
 obtain⟨nm,k⟩:=c;cases k with
 | rg lo hi=>exact ER nm lo hi t n s w
 | tx u=>exact EX nm u t n s w
 | pr u=>exact EY nm u t n s w
theorem Dh (s:ByteArray) (w:V) :
  Z K 95 #[L s] w fun e w'=>e=J (vl true 0 s)/\Below w.heap.size w w':=by
 go_enter Try.func95,Try.ntmps95;go_wp2;exact bodyPost_ret (v:=vl true 0 s) (by simp [results,Try.results95,go_sem]) rfl ⟨rfl,(Below.refl _ _).alloc (ah _) _⟩
theorem xX (s:ByteArray) (w:V) (d:Nat) (os:Array Obj) :
  Z K 95 #[L s] (grow (redrawn w d) os) fun e w''=>e=J (vl true 0 s)/\∃ p:Regrown,w''=grow (redrawn w p.d) p.os :=
 Calls.regrown_of (Dh _ _)
theorem vJ (c:Cn) (s:ByteArray) (r:Bool) (hr:dP c.2 (true,0,s)=r) (w:V) (d:Nat) (os:Array Obj) :
  Z K 94 #[cv (r5 c),vl true 0 s] (grow (redrawn w d) os) fun e w''=>e=J (U r)/\∃ p:Regrown,w''=grow (redrawn w p.d) p.os:=by
 subst hr;exact Calls.regrown_of (CU _ _ _ _ _)
def fU:Kd->Kd->Bool
 | .pr s,.pr t=>pfx t s
 | .tx s,k=>dP k (true,0,s)
 | _,_=>false
theorem FK (w:V) (c d:C5):dH ((w.alloc (O (cells5 c).toArray 56)).alloc (O (cells5 d).toArray 56)) w.heap.size (cells5 c).toArray 56/\dH ((w.alloc (O (cells5 c).toArray 56)).alloc (O (cells5 d).toArray 56)) (w.heap.size+1) (cells5 d).toArray 56/\Below w.heap.size w ((w.alloc (O (cells5 c).toArray 56)).alloc (O (cells5 d).toArray 56)):=by
 refine⟨(dO w _ _).more _,?_,((Below.refl w.heap.size w).alloc (ah _) _).alloc (by simp) _⟩;have h:=dO (w.alloc (O (cells5 c).toArray 56)) (cells5 d).toArray 56
 rwa [show (w.alloc (O (cells5 c).toArray 56)).heap.size=w.heap.size+1 by simp] at h
theorem Di (na nb:ByteArray) (s:ByteArray) (kb:Kd) (w:V):Z K 85 #[cv (r5 (na,.tx s)),cv (r5 (nb,kb))] w fun e w'=>e=J (U (fU (.tx s) kb))/\Below w.heap.size w w':=by
 obtain⟨ba,bb,hb⟩:=FK w (r5 (na,.tx s)) (r5 (nb,kb));have BA:=D ba;have BB:=D bb;have B:=D hb;have H:=vJ (nb,kb) s _ rfl;have C:=xX s;have R:=D (show fU (.tx s) kb=dP kb (true,0,s) from rfl);generalize fU (.tx s) kb=r at *;simp only [r5] at H ⊢;clear ba bb hb;go_enter au,aj;go_wp2;have HH:=D H;have CC:=D C;clear H C;change Code.wp _ _ _ _ ((w.alloc (O (cells5 (r5 (na,.tx s))).toArray 56)).alloc (O (cells5 (r5 (nb,kb))).toArray 56));generalize (w.alloc (O (cells5 (r5 (na,.tx s))).toArray 56)).alloc (O (cells5 (r5 (nb,kb))).toArray 56)=W at *;have a4:=cell_regrown (show W.cell? ⟨w.heap.size,4,ay⟩=ak (L s) from BA.out.cell 4);have b0:=cell_regrown (show W.cell? ⟨w.heap.size+1,0,ay⟩=ak (L nb) from BB.out.cell 0);have b1:=cell_regrown (show W.cell? ⟨w.heap.size+1,1,ay⟩=ak (aB .i64 (kN kb)) from BB.out.cell 1);have b2:=cell_regrown (show W.cell? ⟨w.heap.size+1,2,ay⟩=ak (aB .i64 (mE kb)) from BB.out.cell 2);have b3:=cell_regrown (show W.cell? ⟨w.heap.size+1,3,ay⟩=ak (aB .i64 (mF kb)) from BB.out.cell 3);have b4:=cell_regrown (show W.cell? ⟨w.heap.size+1,4,ay⟩=ak (L (kT kb)) from BB.out.cell 4);refine wp_region_quiet_below (by kernel_rfl) (by kernel_rfl) ?_
 repeat (go_big_quiet_step (first | (with_reducible exact CC.out _ _ _) | (with_reducible exact HH.out _ _ _)))
 refine wpQuiet_nil ?_;intro _ hw';obtain⟨⟨dq,osq⟩,hw''⟩:=hw';subst hw'';have BZ:=D (B.out.trans ((below_regrown W dq osq).mono B.out.size));clear a4 b0 b1 b2 b3 b4;go_wp2;go_ret;exact⟨fZ R.out.symm,BZ.out⟩
theorem Dj (na nb:ByteArray) (s:ByteArray) (t:ByteArray) (w:V):Z K 85 #[cv (r5 (na,.pr s)),cv (r5 (nb,.pr t))] w fun e w'=>e=J (U (fU (.pr s) (.pr t)))/\Below w.heap.size w w':=by
 obtain⟨ba,bb,hb⟩:=FK w (r5 (na,.pr s)) (r5 (nb,.pr t));have BA:=D ba;have BB:=D bb;have B:=D hb;have H:=vJ (nb,.pr t) s _ rfl;have C:=xX s;have R:=D (show fU (.pr s) (.pr t)=dP (.pr t) (true,0,s) by simp only [fU,dP,Bool.true_and]);generalize fU (.pr s) (.pr t)=r at *;simp only [r5] at H ⊢;clear ba bb hb;go_enter au,aj;go_wp2;have HH:=D H;have CC:=D C;clear H C;change Code.wp _ _ _ _ ((w.alloc (O (cells5 (r5 (na,.pr s))).toArray 56)).alloc (O (cells5 (r5 (nb,.pr t))).toArray 56));generalize (w.alloc (O (cells5 (r5 (na,.pr s))).toArray 56)).alloc (O (cells5 (r5 (nb,.pr t))).toArray 56)=W at *;have a4:=cell_regrown (show W.cell? ⟨w.heap.size,4,ay⟩=ak (L s) from BA.out.cell 4);have b0:=cell_regrown (show W.cell? ⟨w.heap.size+1,0,ay⟩=ak (L nb) from BB.out.cell 0);have b1:=cell_regrown (show W.cell? ⟨w.heap.size+1,1,ay⟩=ak (aB .i64 (kN (.pr t))) from BB.out.cell 1);have b2:=cell_regrown (show W.cell? ⟨w.heap.size+1,2,ay⟩=ak (aB .i64 (mE (.pr t))) from BB.out.cell 2);have b3:=cell_regrown (show W.cell? ⟨w.heap.size+1,3,ay⟩=ak (aB .i64 (mF (.pr t))) from BB.out.cell 3);have b4:=cell_regrown (show W.cell? ⟨w.heap.size+1,4,ay⟩=ak (L (kT (.pr t))) from BB.out.cell 4);refine wp_region_quiet_below (by kernel_rfl) (by kernel_rfl) ?_
 repeat (go_big_quiet_step (first | (with_reducible exact CC.out _ _ _) | (with_reducible exact HH.out _ _ _)))
 refine wpQuiet_nil ?_;intro _ hw';obtain⟨⟨dq,osq⟩,hw''⟩:=hw';subst hw'';have BZ:=D (B.out.trans ((below_regrown W dq osq).mono B.out.size));clear a4 b0 b1 b2 b3 b4;go_wp2;go_ret;exact⟨fZ R.out.symm,BZ.out⟩
theorem qH (na nb:ByteArray) (ka kb:Kd) (w:V) (h:(∃ lo hi,ka=.rg lo hi)\/(∃ s,ka=.pr s)/\¬ ∃ t,kb=.pr t):Z K 85 #[cv (r5 (na,ka)),cv (r5 (nb,kb))] w fun e w'=>e=J (U (fU ka kb))/\Below w.heap.size w w':=by
 have B:=D (FK w (r5 (na,ka)) (r5 (nb,kb))).2.2;rcases h with⟨lo,hi,rfl⟩|⟨⟨s,rfl⟩,h⟩
 ·have R:=D (show fU (.rg lo hi) kb=false from rfl);generalize fU (.rg lo hi) kb=r at *;simp only [r5];go_enter au,aj;go_wp2;go_ret;exact⟨fZ R.out.symm,B.out⟩
 ·have R:=D (show fU (.pr s) kb=false by
   cases kb with
   | pr t=>exact absurd ⟨t,rfl⟩ h
   | _=>rfl)
  have e:((kN kb) != (3:Int))=true:=by
   cases kb with
   | pr t=>exact absurd ⟨t,rfl⟩ h
   | _=>rfl
  generalize fU (.pr s) kb=r at *;clear h;simp only [r5];go_enter au,aj;go_wp2;go_ret;exact⟨fZ R.out.symm,B.out⟩
theorem sI (a b:Cn) (w:V):Z K 85 #[cv (r5 a),cv (r5 b)] w fun e w'=>e=J (U (fU a.2 b.2))/\Below w.heap.size w w':=by
 obtain⟨na,ka⟩:=a;obtain⟨nb,kb⟩:=b;cases ka with
 | rg lo hi=>exact qH na nb _ kb w (Or.inl ⟨lo,hi,rfl⟩)
 | tx s=>exact Di na nb s kb w
 | pr s =>
  cases kb with
  | pr t=>exact Dj na nb s t w
  | rg lo hi=>exact qH na nb _ _ w (Or.inr ⟨⟨s,rfl⟩,by rintro⟨t,h⟩; cases h⟩)
  | tx t=>exact qH na nb _ _ w (Or.inr ⟨⟨s,rfl⟩,by rintro⟨t',h⟩; cases h⟩)
def BI (n:ByteArray) (r:Option Kd) (w:V) (e:Ending) (w':V):Prop:=(∃ x,e=J (.tuple #[cv x,U r.isSome])/\∀ k,r=ak k->x=r5 (n,k))/\Below w.heap.size w w'
theorem b3 (w:V) (o p q:Obj):Below w.heap.size w (((w.alloc o).alloc p).alloc q):=(((Below.refl w.heap.size w).alloc (ah _) _).alloc (by simp) _).alloc (by simp; omega) _
theorem xY (na nb:ByteArray) (a b c d:Int) (w:V):Z K 84 #[cv (na,1,a,b,⟨#[]⟩),cv (nb,1,c,d,⟨#[]⟩)] w (BI na (gD (.rg a b) (.rg c d)) w):=by
 have R:=D (show gD (.rg a b) (.rg c d)=if max a c<=min b d then ak (.rg (max a c) (min b d)) else ay from rfl);generalize gD (.rg a b) (.rg c d)=r at *;go_enter Try.func84,Try.ntmps84;go_wp2_with fail
 go_region
 have e1:(if a<c then c else a)=max a c:=by split <;> omega
 have e2:(if d<b then d else b)=min b d:=by split <;> omega
 try rw [e1]
 try rw [e2]
 clear e1 e2;generalize max a c=M at R ⊢;generalize min b d=N at R ⊢;by_cases h:M<=N
 ·have h1:¬ N<M:=by omega
  have R2:=D (show r=ak (.rg M N) by rw [R.out,if_pos h]);clear h;go_wp2;refine bodyPost_ret (v:=.tuple #[cv (na,1,M,N,⟨#[]⟩),U true]) (by simp [results,aA,go_sem]) rfl ?_;refine⟨⟨(na,1,M,N,⟨#[]⟩),by rw [R2.out]; rfl,fun k hk=>?_⟩,(b3 w _ _ _).drew⟩;rw [R2.out] at hk;rw [<- Option.some.inj hk]
  rfl
 ·have h1:N<M:=by omega
  have R2:=D (show r=ay by rw [R.out,if_neg h]);clear h;go_wp2;refine bodyPost_ret (v:=.tuple #[cv (⟨#[]⟩,0,0,0,⟨#[]⟩),U false]) (by simp [results,aA,go_sem]) rfl ?_;refine⟨⟨(⟨#[]⟩,0,0,0,⟨#[]⟩),by rw [R2.out]; rfl,fun k hk=>?_⟩,(b3 w _ _ _).drew⟩;rw [R2.out] at hk;cases hk
theorem rE (a b:Kd):gD a b=(match a,b with
 | .rg p q,.rg r t=>if max p r<=min q t then ak (.rg (max p r) (min q t)) else ay
 | a,b=>if fU a b then ak a else if fU b a then ak b else ay):=by
 cases a <;> cases b <;> simp [gD,fU,dP]
 ·rename_i s t
  by_cases h:s.data=t.data
  ·rw [if_pos h,if_pos h]
  ·rw [if_neg h,if_neg h,if_neg (fun e=>h e.symm)]
 ·rename_i s t
  by_cases h1:pfx s t=true <;> by_cases h2:pfx t s=true <;> simp [h1,h2];have e1:=(eU _ _).1 h1;have e2:=(eU _ _).1 h2;rw [rQ (e2.eq_of_length_le e1.length_le)]
end Go.Proofs.Ytmklifheakemeaa.Pr
