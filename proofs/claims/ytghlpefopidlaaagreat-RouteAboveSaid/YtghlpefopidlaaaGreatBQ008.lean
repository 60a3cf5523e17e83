/-
  Holds of package pre. Conditions as told.
-/
import Derived.Test.YtghlpefopidlaaaGreatBQ002
import Derived.Lib.Strings
import Derived.Lib.QuietBelow
import Derived.BigQuiet
import Derived.BigRegion
set_option maxRecDepth 100000
set_option maxHeartbeats 64000000
open _root_.Array renaming length_toList->U
open _root_.Go renaming cell_regrown->K,World->Z,Calls->ah,bodyPost_ret->aB,below_regrown->aD,redrawn->aG
open Go.Ending renaming returned->J
open Go.Lib renaming hid->D,size_eq->aH
open Go.Obj renaming cells->Q
open Go.Proofs.Tryz renaming prog->L,ntmps187->V,func187->Y,ntmps168->aj,func168->ak,results167->aC
open Go.Value renaming string->O,bool->X,int->aF
open _root_.Nat renaming le_refl->au
open _root_.Option renaming some->ay,none->aA
namespace Go.Proofs.YtghlpefopidlaaaGreat.Pr
open Go.RowKit Go.Sort Pu Rw Va
theorem IW (s p:ByteArray) (w:Z):ah L 201 #[O s,O p] w fun e w'=>e=J (X (pfx p s))/\w'=w:=by
 show ah L _ _ _ fun e w'=>e=J (X (Lib.hasPrefix s.data.toList p.data.toList))/\w'=w;rw [<- Lib.hasPrefix_of_take,<- aH,<- aH];go_enter Tryz.func201,Tryz.ntmps201;go_wp2
 ·rename_i h
  go_ret;refine⟨?_,rfl⟩;show J (X ((s.extract 0 p.size).toList == p.toList))=_;rw [Lib.extract_toList,Lib.toList_data];simp [h]
 ·rename_i h
  go_ret;refine⟨?_,rfl⟩;show J (X false)=_;simp [h]
theorem qC (s p:ByteArray) (w:Z):ah L 196 #[O s,O p] w fun e w'=>e=J (X (pfx p s))/\w'=w:=by
 go_enter Tryz.func196,Tryz.ntmps196;go_wp2_with fail;refine (IW s p w).mono ?_;rintro e w' ⟨rfl,rfl⟩;go_wp2;go_ret;exact⟨rfl,rfl⟩
theorem PX (s u:ByteArray) (h:s.size=u.size):pfx u s=(s.data.toList == u.data.toList):=by
 have hl:u.data.toList.length=s.data.toList.length:=by rw [U,U]; exact h.symm
 rw [Bool.eq_iff_iff,beq_iff_eq,fA];exact⟨fun h1=>(h1.eq_of_length hl).symm,fun h1=>by rw [h1]; exact List.prefix_refl _⟩
theorem Le (s u:ByteArray) (h:¬ s.size=u.size):(s.data.toList == u.data.toList)=false:=by
 rw [beq_eq_false_iff_ne];intro e;have:=congrArg List.length e;rw [U,U] at this;exact h this
theorem hB (w:Z) (nm:ByteArray) (k lo hi:Int) (u:ByteArray) (t:Bool) (n:Int) (s:ByteArray):Below w.heap.size w ((w.alloc (Q #[O nm,aF .i64 k,aF .i64 lo,aF .i64 hi,O u] 91)).alloc (Q #[X t,aF .i64 n,O s] 173)) :=
 ((Below.refl w.heap.size w).alloc (au _) _).alloc (by simp) _
theorem Lf (nm:ByteArray) (lo hi:Int) (t:Bool) (n:Int) (s:ByteArray) (w:Z):ah L 187 #[cv (r5 (nm,.rg lo hi)),vl t n s] w fun e w'=>e=J (X (dZ (.rg lo hi) (t,n,s)))/\Below w.heap.size w w':=by
 simp only [r5,kN,mE,mF,kT];have R:=D (show dZ (.rg lo hi) (t,n,s)=(!t && (decide (lo<=n) && decide (n<=hi))) from rfl);have B:=D (hB w nm 1 lo hi ⟨#[]⟩ t n s);generalize dZ (.rg lo hi) (t,n,s)=r at *;by_cases h1:lo<=n <;> have H1:=D h1 <;> cases t <;> go_enter Y,V <;> go_wp2 <;> go_ret <;> exact⟨eX (by rw [R.out]; have h:=H1.out; simp [h] <;> omega),B.out⟩
theorem Lg (nm u:ByteArray) (t:Bool) (n:Int) (s:ByteArray) (w:Z):ah L 187 #[cv (r5 (nm,.tx u)),vl t n s] w fun e w'=>e=J (X (dZ (.tx u) (t,n,s)))/\Below w.heap.size w w':=by
 simp only [r5,kN,mE,mF,kT];have R:=D (show dZ (.tx u) (t,n,s)=(t && (s.data.toList == u.data.toList)) from rfl);have B:=D (hB w nm 2 0 0 u t n s);generalize dZ (.tx u) (t,n,s)=r at *;by_cases h1:s.size=u.size
 ·have e1:(((s.size:Nat):Int) != ((u.size:Nat):Int))=false:=by simp [h1]
  have E:=D (PX s u h1);clear h1;cases t
  ·go_enter Y,V;go_wp2;go_ret;exact⟨eX (by rw [R.out]; simp),B.out⟩
  ·go_enter Y,V;go_wp2_with fail;refine (qC s u _).mono ?_;rintro e w' ⟨rfl,rfl⟩;go_wp2;go_ret;exact⟨eX (by rw [R.out,E.out]; simp),B.out⟩
 ·have e1:(((s.size:Nat):Int) != ((u.size:Nat):Int))=true:=by simp; omega
  have E:=D (Le s u h1);clear h1;go_enter Y,V;go_wp2;go_ret;exact⟨eX (by rw [R.out,E.out]; simp),B.out⟩
theorem Lh (nm u:ByteArray) (t:Bool) (n:Int) (s:ByteArray) (w:Z):ah L 187 #[cv (r5 (nm,.pr u)),vl t n s] w fun e w'=>e=J (X (dZ (.pr u) (t,n,s)))/\Below w.heap.size w w':=by
 simp only [r5,kN,mE,mF,kT];have R:=D (show dZ (.pr u) (t,n,s)=(t && pfx u s) from rfl);have B:=D (hB w nm 3 0 0 u t n s);generalize dZ (.pr u) (t,n,s)=r at *;cases t
 ·go_enter Y,V;go_wp2;go_ret;exact⟨eX (by rw [R.out]; simp),B.out⟩
 ·go_enter Y,V;go_wp2_with fail;refine (qC s u _).mono ?_;rintro e w' ⟨rfl,rfl⟩;go_wp2;go_ret;exact⟨eX (by rw [R.out]; simp),B.out⟩
theorem IY (c:Cn) (t:Bool) (n:Int) (s:ByteArray) (w:Z):ah L 187 #[cv (r5 c),vl t n s] w fun e w'=>e=J (X (dZ c.2 (t,n,s)))/\Below w.heap.size w w':=by
 obtain⟨nm,k⟩:=c;cases k with
 | rg lo hi=>exact Lf nm lo hi t n s w
 | tx u=>exact Lg nm u t n s w
 | pr u=>exact Lh nm u t n s w
theorem IZ (s:ByteArray) (w:Z) :
  ah L 188 #[O s] w fun e w'=>e=J (vl true 0 s)/\Below w.heap.size w w':=by
 go_enter Tryz.func188,Tryz.ntmps188;go_wp2;exact aB (v:=vl true 0 s) (by simp [results,Tryz.results188,go_sem]) rfl ⟨rfl,(Below.refl _ _).alloc (au _) _⟩
theorem Ch (s:ByteArray) (w:Z) (d:Nat) (os:Array Obj) :
  ah L 188 #[O s] (grow (aG w d) os) fun e w''=>e=J (vl true 0 s)/\∃ p:Regrown,w''=grow (aG w p.d) p.os :=
 Calls.regrown_of (IZ _ _)
theorem yF (c:Cn) (s:ByteArray) (r:Bool) (hr:dZ c.2 (true,0,s)=r) (w:Z) (d:Nat) (os:Array Obj) :
  ah L 187 #[cv (r5 c),vl true 0 s] (grow (aG w d) os) fun e w''=>e=J (X r)/\∃ p:Regrown,w''=grow (aG w p.d) p.os:=by
 subst hr;exact Calls.regrown_of (IY _ _ _ _ _)
def gU:Kd->Kd->Bool
 | .pr s,.pr t=>pfx t s
 | .tx s,k=>dZ k (true,0,s)
 | _,_=>false
theorem Li (w:Z) (c d:C5):dG ((w.alloc (Q (cells5 c).toArray 91)).alloc (Q (cells5 d).toArray 91)) w.heap.size (cells5 c).toArray 91/\dG ((w.alloc (Q (cells5 c).toArray 91)).alloc (Q (cells5 d).toArray 91)) (w.heap.size+1) (cells5 d).toArray 91/\Below w.heap.size w ((w.alloc (Q (cells5 c).toArray 91)).alloc (Q (cells5 d).toArray 91)):=by
 refine⟨(dO w _ _).more _,?_,((Below.refl w.heap.size w).alloc (au _) _).alloc (by simp) _⟩;have h:=dO (w.alloc (Q (cells5 c).toArray 91)) (cells5 d).toArray 91
 rwa [show (w.alloc (Q (cells5 c).toArray 91)).heap.size=w.heap.size+1 by simp] at h
theorem I4 (na nb:ByteArray) (s:ByteArray) (kb:Kd) (w:Z):ah L 168 #[cv (r5 (na,.tx s)),cv (r5 (nb,kb))] w fun e w'=>e=J (X (gU (.tx s) kb))/\Below w.heap.size w w':=by
 obtain⟨ba,bb,hb⟩:=Li w (r5 (na,.tx s)) (r5 (nb,kb));have BA:=D ba;have BB:=D bb;have B:=D hb;have H:=yF (nb,kb) s _ rfl;have C:=Ch s;have R:=D (show gU (.tx s) kb=dZ kb (true,0,s) from rfl);generalize gU (.tx s) kb=r at *;simp only [r5] at H ⊢;clear ba bb hb;go_enter ak,aj;go_wp2;have HH:=D H;have CC:=D C;clear H C;change Code.wp _ _ _ _ ((w.alloc (Q (cells5 (r5 (na,.tx s))).toArray 91)).alloc (Q (cells5 (r5 (nb,kb))).toArray 91));generalize (w.alloc (Q (cells5 (r5 (na,.tx s))).toArray 91)).alloc (Q (cells5 (r5 (nb,kb))).toArray 91)=W at *;have a4:=K (show W.cell? ⟨w.heap.size,4,aA⟩=ay (O s) from BA.out.cell 4);have b0:=K (show W.cell? ⟨w.heap.size+1,0,aA⟩=ay (O nb) from BB.out.cell 0);have b1:=K (show W.cell? ⟨w.heap.size+1,1,aA⟩=ay (aF .i64 (kN kb)) from BB.out.cell 1);have b2:=K (show W.cell? ⟨w.heap.size+1,2,aA⟩=ay (aF .i64 (mE kb)) from BB.out.cell 2);have b3:=K (show W.cell? ⟨w.heap.size+1,3,aA⟩=ay (aF .i64 (mF kb)) from BB.out.cell 3);have b4:=K (show W.cell? ⟨w.heap.size+1,4,aA⟩=ay (O (kT kb)) from BB.out.cell 4);refine wp_region_quiet_below (by kernel_rfl) (by kernel_rfl) ?_
 repeat (go_big_quiet_step (first | (with_reducible exact CC.out _ _ _) | (with_reducible exact HH.out _ _ _)))
 refine wpQuiet_nil ?_;intro _ hw';obtain⟨⟨dq,osq⟩,hw''⟩:=hw';subst hw'';have BZ:=D (B.out.trans ((aD W dq osq).mono B.out.size));clear a4 b0 b1 b2 b3 b4;go_wp2;go_ret;exact⟨eX R.out.symm,BZ.out⟩
theorem I5 (na nb:ByteArray) (s:ByteArray) (t:ByteArray) (w:Z):ah L 168 #[cv (r5 (na,.pr s)),cv (r5 (nb,.pr t))] w fun e w'=>e=J (X (gU (.pr s) (.pr t)))/\Below w.heap.size w w':=by
 obtain⟨ba,bb,hb⟩:=Li w (r5 (na,.pr s)) (r5 (nb,.pr t));have BA:=D ba;have BB:=D bb;have B:=D hb;have H:=yF (nb,.pr t) s _ rfl;have C:=Ch s;have R:=D (show gU (.pr s) (.pr t)=dZ (.pr t) (true,0,s) by simp only [gU,dZ,Bool.true_and]);generalize gU (.pr s) (.pr t)=r at *;simp only [r5] at H ⊢;clear ba bb hb;go_enter ak,aj;go_wp2;have HH:=D H;have CC:=D C;clear H C;change Code.wp _ _ _ _ ((w.alloc (Q (cells5 (r5 (na,.pr s))).toArray 91)).alloc (Q (cells5 (r5 (nb,.pr t))).toArray 91));generalize (w.alloc (Q (cells5 (r5 (na,.pr s))).toArray 91)).alloc (Q (cells5 (r5 (nb,.pr t))).toArray 91)=W at *;have a4:=K (show W.cell? ⟨w.heap.size,4,aA⟩=ay (O s) from BA.out.cell 4);have b0:=K (show W.cell? ⟨w.heap.size+1,0,aA⟩=ay (O nb) from BB.out.cell 0);have b1:=K (show W.cell? ⟨w.heap.size+1,1,aA⟩=ay (aF .i64 (kN (.pr t))) from BB.out.cell 1);have b2:=K (show W.cell? ⟨w.heap.size+1,2,aA⟩=ay (aF .i64 (mE (.pr t))) from BB.out.cell 2);have b3:=K (show W.cell? ⟨w.heap.size+1,3,aA⟩=ay (aF .i64 (mF (.pr t))) from BB.out.cell 3);have b4:=K (show W.cell? ⟨w.heap.size+1,4,aA⟩=ay (O (kT (.pr t))) from BB.out.cell 4);refine wp_region_quiet_below (by kernel_rfl) (by kernel_rfl) ?_
 repeat (go_big_quiet_step (first | (with_reducible exact CC.out _ _ _) | (with_reducible exact HH.out _ _ _)))
 refine wpQuiet_nil ?_;intro _ hw';obtain⟨⟨dq,osq⟩,hw''⟩:=hw';subst hw'';have BZ:=D (B.out.trans ((aD W dq osq).mono B.out.size));clear a4 b0 b1 b2 b3 b4;go_wp2;go_ret;exact⟨eX R.out.symm,BZ.out⟩
theorem sI (na nb:ByteArray) (ka kb:Kd) (w:Z) (h:(∃ lo hi,ka=.rg lo hi)\/(∃ s,ka=.pr s)/\¬ ∃ t,kb=.pr t):ah L 168 #[cv (r5 (na,ka)),cv (r5 (nb,kb))] w fun e w'=>e=J (X (gU ka kb))/\Below w.heap.size w w':=by
 have B:=D (Li w (r5 (na,ka)) (r5 (nb,kb))).2.2;rcases h with⟨lo,hi,rfl⟩|⟨⟨s,rfl⟩,h⟩
 ·have R:=D (show gU (.rg lo hi) kb=false from rfl);generalize gU (.rg lo hi) kb=r at *;simp only [r5];go_enter ak,aj;go_wp2;go_ret;exact⟨eX R.out.symm,B.out⟩
 ·have R:=D (show gU (.pr s) kb=false by
   cases kb with
   | pr t=>exact absurd ⟨t,rfl⟩ h
   | _=>rfl)
  have e:((kN kb) != (3:Int))=true:=by
   cases kb with
   | pr t=>exact absurd ⟨t,rfl⟩ h
   | _=>rfl
  generalize gU (.pr s) kb=r at *;clear h;simp only [r5];go_enter ak,aj;go_wp2;go_ret;exact⟨eX R.out.symm,B.out⟩
theorem vJ (a b:Cn) (w:Z):ah L 168 #[cv (r5 a),cv (r5 b)] w fun e w'=>e=J (X (gU a.2 b.2))/\Below w.heap.size w w':=by
 obtain⟨na,ka⟩:=a;obtain⟨nb,kb⟩:=b;cases ka with
 | rg lo hi=>exact sI na nb _ kb w (Or.inl ⟨lo,hi,rfl⟩)
 | tx s=>exact I4 na nb s kb w
 | pr s =>
  cases kb with
  | pr t=>exact I5 na nb s t w
  | rg lo hi=>exact sI na nb _ _ w (Or.inr ⟨⟨s,rfl⟩,by rintro⟨t,h⟩; cases h⟩)
  | tx t=>exact sI na nb _ _ w (Or.inr ⟨⟨s,rfl⟩,by rintro⟨t',h⟩; cases h⟩)
def GA (n:ByteArray) (r:Option Kd) (w:Z) (e:Ending) (w':Z):Prop:=(∃ x,e=J (.tuple #[cv x,X r.isSome])/\∀ k,r=ay k->x=r5 (n,k))/\Below w.heap.size w w'
theorem b3 (w:Z) (o p q:Obj):Below w.heap.size w (((w.alloc o).alloc p).alloc q):=(((Below.refl w.heap.size w).alloc (au _) _).alloc (by simp) _).alloc (by simp; omega) _
theorem Ci (na nb:ByteArray) (a b c d:Int) (w:Z):ah L 167 #[cv (na,1,a,b,⟨#[]⟩),cv (nb,1,c,d,⟨#[]⟩)] w (GA na (fK (.rg a b) (.rg c d)) w):=by
 have R:=D (show fK (.rg a b) (.rg c d)=if max a c<=min b d then ay (.rg (max a c) (min b d)) else aA from rfl);generalize fK (.rg a b) (.rg c d)=r at *;go_enter Tryz.func167,Tryz.ntmps167;go_wp2_with fail
 go_region
 have e1:(if a<c then c else a)=max a c:=by split <;> omega
 have e2:(if d<b then d else b)=min b d:=by split <;> omega
 try rw [e1]
 try rw [e2]
 clear e1 e2;generalize max a c=M at R ⊢;generalize min b d=N at R ⊢;by_cases h:M<=N
 ·have h1:¬ N<M:=by omega
  have R2:=D (show r=ay (.rg M N) by rw [R.out,if_pos h]);clear h;go_wp2;refine aB (v:=.tuple #[cv (na,1,M,N,⟨#[]⟩),X true]) (by simp [results,aC,go_sem]) rfl ?_;refine⟨⟨(na,1,M,N,⟨#[]⟩),by rw [R2.out]; rfl,fun k hk=>?_⟩,(b3 w _ _ _).drew⟩;rw [R2.out] at hk;rw [<- Option.some.inj hk]
  rfl
 ·have h1:N<M:=by omega
  have R2:=D (show r=aA by rw [R.out,if_neg h]);clear h;go_wp2;refine aB (v:=.tuple #[cv (⟨#[]⟩,0,0,0,⟨#[]⟩),X false]) (by simp [results,aC,go_sem]) rfl ?_;refine⟨⟨(⟨#[]⟩,0,0,0,⟨#[]⟩),by rw [R2.out]; rfl,fun k hk=>?_⟩,(b3 w _ _ _).drew⟩;rw [R2.out] at hk;cases hk
theorem uP (a b:Kd):fK a b=(match a,b with
 | .rg p q,.rg r t=>if max p r<=min q t then ay (.rg (max p r) (min q t)) else aA
 | a,b=>if gU a b then ay a else if gU b a then ay b else aA):=by
 cases a <;> cases b <;> simp [fK,gU,dZ]
 ·rename_i s t
  by_cases h:s.data=t.data
  ·rw [if_pos h,if_pos h]
  ·rw [if_neg h,if_neg h,if_neg (fun e=>h e.symm)]
 ·rename_i s t
  by_cases h1:pfx s t=true <;> by_cases h2:pfx t s=true <;> simp [h1,h2];have e1:=(fA _ _).1 h1;have e2:=(fA _ _).1 h2;rw [qW (e2.eq_of_length_le e1.length_le)]
end Go.Proofs.YtghlpefopidlaaaGreat.Pr
