/-
  Holds of package pre. Conditions as told.
-/
import Derived.Test.YtkcfgbddlpomgaaBQ007
import Derived.Lib.Strings
import Derived.BigRegion
set_option maxRecDepth 100000
set_option maxHeartbeats 64000000
open _root_.Array renaming length_toList->U
open _root_.Go renaming cell_regrown->K,World->X,Calls->ah,bodyPost_ret->aB,below_regrown->aC,redrawn->aG
open Go.Ending renaming returned->J
open Go.Lib renaming hid->D,size_eq->aH
open Go.Obj renaming cells->Q
open Go.Proofs.Try renaming prog->L,ntmps73->Y,func73->Z,ntmps91->ak,func91->ay,results90->aD
open Go.Value renaming string->O,bool->V,int->aF
open _root_.Nat renaming le_refl->aj
open _root_.Option renaming some->au,none->aA
namespace Go.Proofs.Ytkcfgbddlpomgaa.Pr
open Go.RowKit Go.Sort Pu Rw Va
theorem uF (s p:ByteArray) (w:X):ah L 89 #[O s,O p] w fun e w'=>e=J (V (pfx p s))/\w'=w:=by
 show ah L _ _ _ fun e w'=>e=J (V (Lib.hasPrefix s.data.toList p.data.toList))/\w'=w;rw [<- Lib.hasPrefix_of_take,<- aH,<- aH];go_enter Try.func89,Try.ntmps89;go_wp2
 ·rename_i h
  go_ret;refine⟨?_,rfl⟩;show J (V ((s.extract 0 p.size).toList == p.toList))=_;rw [Lib.extract_toList,Lib.toList_data];simp [h]
 ·rename_i h
  go_ret;refine⟨?_,rfl⟩;show J (V false)=_;simp [h]
theorem jA (s p:ByteArray) (w:X):ah L 84 #[O s,O p] w fun e w'=>e=J (V (pfx p s))/\w'=w:=by
 go_enter Try.func84,Try.ntmps84;go_wp2_with fail;refine (uF s p w).mono ?_;rintro e w' ⟨rfl,rfl⟩;go_wp2;go_ret;exact⟨rfl,rfl⟩
theorem zH (s u:ByteArray) (h:s.size=u.size):pfx u s=(s.data.toList == u.data.toList):=by
 have hl:u.data.toList.length=s.data.toList.length:=by rw [U,U]; exact h.symm
 rw [Bool.eq_iff_iff,beq_iff_eq,dK];exact⟨fun h1=>(h1.eq_of_length hl).symm,fun h1=>by rw [h1]; exact List.prefix_refl _⟩
theorem wX (s u:ByteArray) (h:¬ s.size=u.size):(s.data.toList == u.data.toList)=false:=by
 rw [beq_eq_false_iff_ne];intro e;have:=congrArg List.length e;rw [U,U] at this;exact h this
theorem hB (w:X) (nm:ByteArray) (k lo hi:Int) (u:ByteArray) (t:Bool) (n:Int) (s:ByteArray):Below w.heap.size w ((w.alloc (Q #[O nm,aF .i64 k,aF .i64 lo,aF .i64 hi,O u] 38)).alloc (Q #[V t,aF .i64 n,O s] 73)) :=
 ((Below.refl w.heap.size w).alloc (aj _) _).alloc (by simp) _
theorem wY (nm:ByteArray) (lo hi:Int) (t:Bool) (n:Int) (s:ByteArray) (w:X):ah L 73 #[cv (r5 (nm,.rg lo hi)),vl t n s] w fun e w'=>e=J (V (cZ (.rg lo hi) (t,n,s)))/\Below w.heap.size w w':=by
 simp only [r5,kN,jO,jP,kT];have R:=D (show cZ (.rg lo hi) (t,n,s)=(!t && (decide (lo<=n) && decide (n<=hi))) from rfl);have B:=D (hB w nm 1 lo hi ⟨#[]⟩ t n s);generalize cZ (.rg lo hi) (t,n,s)=r at *;by_cases h1:lo<=n <;> have H1:=D h1 <;> cases t <;> go_enter Z,Y <;> go_wp2 <;> go_ret <;> exact⟨dN (by rw [R.out]; have h:=H1.out; simp [h] <;> omega),B.out⟩
theorem wZ (nm u:ByteArray) (t:Bool) (n:Int) (s:ByteArray) (w:X):ah L 73 #[cv (r5 (nm,.tx u)),vl t n s] w fun e w'=>e=J (V (cZ (.tx u) (t,n,s)))/\Below w.heap.size w w':=by
 simp only [r5,kN,jO,jP,kT];have R:=D (show cZ (.tx u) (t,n,s)=(t && (s.data.toList == u.data.toList)) from rfl);have B:=D (hB w nm 2 0 0 u t n s);generalize cZ (.tx u) (t,n,s)=r at *;by_cases h1:s.size=u.size
 ·have e1:(((s.size:Nat):Int) != ((u.size:Nat):Int))=false:=by simp [h1]
  have E:=D (zH s u h1);clear h1;cases t
  ·go_enter Z,Y;go_wp2;go_ret;exact⟨dN (by rw [R.out]; simp),B.out⟩
  ·go_enter Z,Y;go_wp2_with fail;refine (jA s u _).mono ?_;rintro e w' ⟨rfl,rfl⟩;go_wp2;go_ret;exact⟨dN (by rw [R.out,E.out]; simp),B.out⟩
 ·have e1:(((s.size:Nat):Int) != ((u.size:Nat):Int))=true:=by simp; omega
  have E:=D (wX s u h1);clear h1;go_enter Z,Y;go_wp2;go_ret;exact⟨dN (by rw [R.out,E.out]; simp),B.out⟩
theorem xg (nm u:ByteArray) (t:Bool) (n:Int) (s:ByteArray) (w:X):ah L 73 #[cv (r5 (nm,.pr u)),vl t n s] w fun e w'=>e=J (V (cZ (.pr u) (t,n,s)))/\Below w.heap.size w w':=by
 simp only [r5,kN,jO,jP,kT];have R:=D (show cZ (.pr u) (t,n,s)=(t && pfx u s) from rfl);have B:=D (hB w nm 3 0 0 u t n s);generalize cZ (.pr u) (t,n,s)=r at *;cases t
 ·go_enter Z,Y;go_wp2;go_ret;exact⟨dN (by rw [R.out]; simp),B.out⟩
 ·go_enter Z,Y;go_wp2_with fail;refine (jA s u _).mono ?_;rintro e w' ⟨rfl,rfl⟩;go_wp2;go_ret;exact⟨dN (by rw [R.out]; simp),B.out⟩
theorem nH (c:Cn) (t:Bool) (n:Int) (s:ByteArray) (w:X):ah L 73 #[cv (r5 c),vl t n s] w fun e w'=>e=J (V (cZ c.2 (t,n,s)))/\Below w.heap.size w w':=by
 obtain⟨nm,k⟩:=c;cases k with
 | rg lo hi=>exact wY nm lo hi t n s w
 | tx u=>exact wZ nm u t n s w
 | pr u=>exact xg nm u t n s w
theorem uG (s:ByteArray) (w:X) :
  ah L 92 #[O s] w fun e w'=>e=J (vl true 0 s)/\Below w.heap.size w w':=by
 go_enter Try.func92,Try.ntmps92;go_wp2;exact aB (v:=vl true 0 s) (by simp [results,Try.results92,go_sem]) rfl ⟨rfl,(Below.refl _ _).alloc (aj _) _⟩
theorem pO (s:ByteArray) (w:X) (d:Nat) (os:Array Obj) :
  ah L 92 #[O s] (grow (aG w d) os) fun e w''=>e=J (vl true 0 s)/\∃ p:Regrown,w''=grow (aG w p.d) p.os :=
 Calls.regrown_of (uG _ _)
theorem nI (c:Cn) (s:ByteArray) (r:Bool) (hr:cZ c.2 (true,0,s)=r) (w:X) (d:Nat) (os:Array Obj) :
  ah L 73 #[cv (r5 c),vl true 0 s] (grow (aG w d) os) fun e w''=>e=J (V r)/\∃ p:Regrown,w''=grow (aG w p.d) p.os:=by
 subst hr;exact Calls.regrown_of (nH _ _ _ _ _)
def dQ:Kd->Kd->Bool
 | .pr s,.pr t=>pfx t s
 | .tx s,k=>cZ k (true,0,s)
 | _,_=>false
theorem xq (w:X) (c d:C5):dh ((w.alloc (Q (cells5 c).toArray 38)).alloc (Q (cells5 d).toArray 38)) w.heap.size (cells5 c).toArray 38/\dh ((w.alloc (Q (cells5 c).toArray 38)).alloc (Q (cells5 d).toArray 38)) (w.heap.size+1) (cells5 d).toArray 38/\Below w.heap.size w ((w.alloc (Q (cells5 c).toArray 38)).alloc (Q (cells5 d).toArray 38)):=by
 refine⟨(dB w _ _).more _,?_,((Below.refl w.heap.size w).alloc (aj _) _).alloc (by simp) _⟩;have h:=dB (w.alloc (Q (cells5 c).toArray 38)) (cells5 d).toArray 38
 rwa [show (w.alloc (Q (cells5 c).toArray 38)).heap.size=w.heap.size+1 by simp] at h
theorem uH (na nb:ByteArray) (s:ByteArray) (kb:Kd) (w:X):ah L 91 #[cv (r5 (na,.tx s)),cv (r5 (nb,kb))] w fun e w'=>e=J (V (dQ (.tx s) kb))/\Below w.heap.size w w':=by
 obtain⟨ba,bb,hb⟩:=xq w (r5 (na,.tx s)) (r5 (nb,kb));have BA:=D ba;have BB:=D bb;have B:=D hb;have H:=nI (nb,kb) s _ rfl;have C:=pO s;have R:=D (show dQ (.tx s) kb=cZ kb (true,0,s) from rfl);generalize dQ (.tx s) kb=r at *;simp only [r5] at H ⊢;clear ba bb hb;go_enter ay,ak;go_wp2;have HH:=D H;have CC:=D C;clear H C;change Code.wp _ _ _ _ ((w.alloc (Q (cells5 (r5 (na,.tx s))).toArray 38)).alloc (Q (cells5 (r5 (nb,kb))).toArray 38));generalize (w.alloc (Q (cells5 (r5 (na,.tx s))).toArray 38)).alloc (Q (cells5 (r5 (nb,kb))).toArray 38)=W at *;have a4:=K (show W.cell? ⟨w.heap.size,4,aA⟩=au (O s) from BA.out.cell 4);have b0:=K (show W.cell? ⟨w.heap.size+1,0,aA⟩=au (O nb) from BB.out.cell 0);have b1:=K (show W.cell? ⟨w.heap.size+1,1,aA⟩=au (aF .i64 (kN kb)) from BB.out.cell 1);have b2:=K (show W.cell? ⟨w.heap.size+1,2,aA⟩=au (aF .i64 (jO kb)) from BB.out.cell 2);have b3:=K (show W.cell? ⟨w.heap.size+1,3,aA⟩=au (aF .i64 (jP kb)) from BB.out.cell 3);have b4:=K (show W.cell? ⟨w.heap.size+1,4,aA⟩=au (O (kT kb)) from BB.out.cell 4);refine wp_region_quiet_below (by kernel_rfl) (by kernel_rfl) ?_
 repeat (go_big_quiet_step (first | (with_reducible exact CC.out _ _ _) | (with_reducible exact HH.out _ _ _)))
 refine wpQuiet_nil ?_;intro _ hw';obtain⟨⟨dq,osq⟩,hw''⟩:=hw';subst hw'';have BZ:=D (B.out.trans ((aC W dq osq).mono B.out.size));clear a4 b0 b1 b2 b3 b4;go_wp2;go_ret;exact⟨dN R.out.symm,BZ.out⟩
theorem uI (na nb:ByteArray) (s:ByteArray) (t:ByteArray) (w:X):ah L 91 #[cv (r5 (na,.pr s)),cv (r5 (nb,.pr t))] w fun e w'=>e=J (V (dQ (.pr s) (.pr t)))/\Below w.heap.size w w':=by
 obtain⟨ba,bb,hb⟩:=xq w (r5 (na,.pr s)) (r5 (nb,.pr t));have BA:=D ba;have BB:=D bb;have B:=D hb;have H:=nI (nb,.pr t) s _ rfl;have C:=pO s;have R:=D (show dQ (.pr s) (.pr t)=cZ (.pr t) (true,0,s) by simp only [dQ,cZ,Bool.true_and]);generalize dQ (.pr s) (.pr t)=r at *;simp only [r5] at H ⊢;clear ba bb hb;go_enter ay,ak;go_wp2;have HH:=D H;have CC:=D C;clear H C;change Code.wp _ _ _ _ ((w.alloc (Q (cells5 (r5 (na,.pr s))).toArray 38)).alloc (Q (cells5 (r5 (nb,.pr t))).toArray 38));generalize (w.alloc (Q (cells5 (r5 (na,.pr s))).toArray 38)).alloc (Q (cells5 (r5 (nb,.pr t))).toArray 38)=W at *;have a4:=K (show W.cell? ⟨w.heap.size,4,aA⟩=au (O s) from BA.out.cell 4);have b0:=K (show W.cell? ⟨w.heap.size+1,0,aA⟩=au (O nb) from BB.out.cell 0);have b1:=K (show W.cell? ⟨w.heap.size+1,1,aA⟩=au (aF .i64 (kN (.pr t))) from BB.out.cell 1);have b2:=K (show W.cell? ⟨w.heap.size+1,2,aA⟩=au (aF .i64 (jO (.pr t))) from BB.out.cell 2);have b3:=K (show W.cell? ⟨w.heap.size+1,3,aA⟩=au (aF .i64 (jP (.pr t))) from BB.out.cell 3);have b4:=K (show W.cell? ⟨w.heap.size+1,4,aA⟩=au (O (kT (.pr t))) from BB.out.cell 4);refine wp_region_quiet_below (by kernel_rfl) (by kernel_rfl) ?_
 repeat (go_big_quiet_step (first | (with_reducible exact CC.out _ _ _) | (with_reducible exact HH.out _ _ _)))
 refine wpQuiet_nil ?_;intro _ hw';obtain⟨⟨dq,osq⟩,hw''⟩:=hw';subst hw'';have BZ:=D (B.out.trans ((aC W dq osq).mono B.out.size));clear a4 b0 b1 b2 b3 b4;go_wp2;go_ret;exact⟨dN R.out.symm,BZ.out⟩
theorem kD (na nb:ByteArray) (ka kb:Kd) (w:X) (h:(∃ lo hi,ka=.rg lo hi)\/(∃ s,ka=.pr s)/\¬ ∃ t,kb=.pr t):ah L 91 #[cv (r5 (na,ka)),cv (r5 (nb,kb))] w fun e w'=>e=J (V (dQ ka kb))/\Below w.heap.size w w':=by
 have B:=D (xq w (r5 (na,ka)) (r5 (nb,kb))).2.2;rcases h with⟨lo,hi,rfl⟩|⟨⟨s,rfl⟩,h⟩
 ·have R:=D (show dQ (.rg lo hi) kb=false from rfl);generalize dQ (.rg lo hi) kb=r at *;simp only [r5];go_enter ay,ak;go_wp2;go_ret;exact⟨dN R.out.symm,B.out⟩
 ·have R:=D (show dQ (.pr s) kb=false by
   cases kb with
   | pr t=>exact absurd ⟨t,rfl⟩ h
   | _=>rfl)
  have e:((kN kb) != (3:Int))=true:=by
   cases kb with
   | pr t=>exact absurd ⟨t,rfl⟩ h
   | _=>rfl
  generalize dQ (.pr s) kb=r at *;clear h;simp only [r5];go_enter ay,ak;go_wp2;go_ret;exact⟨dN R.out.symm,B.out⟩
theorem lM (a b:Cn) (w:X):ah L 91 #[cv (r5 a),cv (r5 b)] w fun e w'=>e=J (V (dQ a.2 b.2))/\Below w.heap.size w w':=by
 obtain⟨na,ka⟩:=a;obtain⟨nb,kb⟩:=b;cases ka with
 | rg lo hi=>exact kD na nb _ kb w (Or.inl ⟨lo,hi,rfl⟩)
 | tx s=>exact uH na nb s kb w
 | pr s =>
  cases kb with
  | pr t=>exact uI na nb s t w
  | rg lo hi=>exact kD na nb _ _ w (Or.inr ⟨⟨s,rfl⟩,by rintro⟨t,h⟩; cases h⟩)
  | tx t=>exact kD na nb _ _ w (Or.inr ⟨⟨s,rfl⟩,by rintro⟨t',h⟩; cases h⟩)
def sG (n:ByteArray) (r:Option Kd) (w:X) (e:Ending) (w':X):Prop:=(∃ x,e=J (.tuple #[cv x,V r.isSome])/\∀ k,r=au k->x=r5 (n,k))/\Below w.heap.size w w'
theorem b3 (w:X) (o p q:Obj):Below w.heap.size w (((w.alloc o).alloc p).alloc q):=(((Below.refl w.heap.size w).alloc (aj _) _).alloc (by simp) _).alloc (by simp; omega) _
theorem pQ (na nb:ByteArray) (a b c d:Int) (w:X):ah L 90 #[cv (na,1,a,b,⟨#[]⟩),cv (nb,1,c,d,⟨#[]⟩)] w (sG na (eu (.rg a b) (.rg c d)) w):=by
 have R:=D (show eu (.rg a b) (.rg c d)=if max a c<=min b d then au (.rg (max a c) (min b d)) else aA from rfl);generalize eu (.rg a b) (.rg c d)=r at *;go_enter Try.func90,Try.ntmps90;go_wp2_with fail
 go_region
 have e1:(if a<c then c else a)=max a c:=by split <;> omega
 have e2:(if d<b then d else b)=min b d:=by split <;> omega
 try rw [e1]
 try rw [e2]
 clear e1 e2;generalize max a c=M at R ⊢;generalize min b d=N at R ⊢;by_cases h:M<=N
 ·have h1:¬ N<M:=by omega
  have R2:=D (show r=au (.rg M N) by rw [R.out,if_pos h]);clear h;go_wp2;refine aB (v:=.tuple #[cv (na,1,M,N,⟨#[]⟩),V true]) (by simp [results,aD,go_sem]) rfl ?_;refine⟨⟨(na,1,M,N,⟨#[]⟩),by rw [R2.out]; rfl,fun k hk=>?_⟩,(b3 w _ _ _).drew⟩;rw [R2.out] at hk;rw [<- Option.some.inj hk]
  rfl
 ·have h1:N<M:=by omega
  have R2:=D (show r=aA by rw [R.out,if_neg h]);clear h;go_wp2;refine aB (v:=.tuple #[cv (⟨#[]⟩,0,0,0,⟨#[]⟩),V false]) (by simp [results,aD,go_sem]) rfl ?_;refine⟨⟨(⟨#[]⟩,0,0,0,⟨#[]⟩),by rw [R2.out]; rfl,fun k hk=>?_⟩,(b3 w _ _ _).drew⟩;rw [R2.out] at hk;cases hk
theorem lC (a b:Kd):eu a b=(match a,b with
 | .rg p q,.rg r t=>if max p r<=min q t then au (.rg (max p r) (min q t)) else aA
 | a,b=>if dQ a b then au a else if dQ b a then au b else aA):=by
 cases a <;> cases b <;> simp [eu,dQ,cZ]
 ·rename_i s t
  by_cases h:s.data=t.data
  ·rw [if_pos h,if_pos h]
  ·rw [if_neg h,if_neg h,if_neg (fun e=>h e.symm)]
 ·rename_i s t
  by_cases h1:pfx s t=true <;> by_cases h2:pfx t s=true <;> simp [h1,h2];have e1:=(dK _ _).1 h1;have e2:=(dK _ _).1 h2;rw [lI (e2.eq_of_length_le e1.length_le)]
end Go.Proofs.Ytkcfgbddlpomgaa.Pr
