/-
  Holds of package pre. Conditions as told.
-/
import Derived.Test.YtkcfgbddlpomgaaGreatCQ004
import Derived.Lib.Strings
import Derived.BigRegion
set_option maxRecDepth 100000
set_option maxHeartbeats 64000000
open _root_.Array renaming length_toList->U
open _root_.Go renaming cell_regrown->K,World->Y,Calls->ah,bodyPost_ret->aB,below_regrown->aD,redrawn->aG
open Go.Ending renaming returned->J
open Go.Lib renaming hid->D,size_eq->aH
open Go.Obj renaming cells->Q
open Go.Proofs.Tryz renaming prog->L,ntmps45->X,func45->Z,ntmps144->aj,func144->ak,results143->aC
open Go.Value renaming string->O,bool->V,int->aF
open _root_.Nat renaming le_refl->au
open _root_.Option renaming some->ay,none->aA
namespace Go.Proofs.YtkcfgbddlpomgaaGreat.Pr
open Go.RowKit Go.Sort Pu Rw Va
theorem Nh (s p:ByteArray) (w:Y):ah L 106 #[O s,O p] w fun e w'=>e=J (V (pfx p s))/\w'=w:=by
 show ah L _ _ _ fun e w'=>e=J (V (Lib.hasPrefix s.data.toList p.data.toList))/\w'=w;rw [<- Lib.hasPrefix_of_take,<- aH,<- aH];go_enter Tryz.func106,Tryz.ntmps106;go_wp2
 ·rename_i h
  go_ret;refine⟨?_,rfl⟩;show J (V ((s.extract 0 p.size).toList == p.toList))=_;rw [Lib.extract_toList,Lib.toList_data];simp [h]
 ·rename_i h
  go_ret;refine⟨?_,rfl⟩;show J (V false)=_;simp [h]
theorem tF (s p:ByteArray) (w:Y):ah L 77 #[O s,O p] w fun e w'=>e=J (V (pfx p s))/\w'=w:=by
 go_enter Tryz.func77,Tryz.ntmps77;go_wp2_with fail;refine (Nh s p w).mono ?_;rintro e w' ⟨rfl,rfl⟩;go_wp2;go_ret;exact⟨rfl,rfl⟩
theorem Vu (s u:ByteArray) (h:s.size=u.size):pfx u s=(s.data.toList == u.data.toList):=by
 have hl:u.data.toList.length=s.data.toList.length:=by rw [U,U]; exact h.symm
 rw [Bool.eq_iff_iff,beq_iff_eq,fE];exact⟨fun h1=>(h1.eq_of_length hl).symm,fun h1=>by rw [h1]; exact List.prefix_refl _⟩
theorem Qt (s u:ByteArray) (h:¬ s.size=u.size):(s.data.toList == u.data.toList)=false:=by
 rw [beq_eq_false_iff_ne];intro e;have:=congrArg List.length e;rw [U,U] at this;exact h this
theorem hB (w:Y) (nm:ByteArray) (k lo hi:Int) (u:ByteArray) (t:Bool) (n:Int) (s:ByteArray):Below w.heap.size w ((w.alloc (Q #[O nm,aF .i64 k,aF .i64 lo,aF .i64 hi,O u] 106)).alloc (Q #[V t,aF .i64 n,O s] 93)) :=
 ((Below.refl w.heap.size w).alloc (au _) _).alloc (by simp) _
theorem Qu (nm:ByteArray) (lo hi:Int) (t:Bool) (n:Int) (s:ByteArray) (w:Y):ah L 45 #[cv (r5 (nm,.rg lo hi)),vl t n s] w fun e w'=>e=J (V (dP (.rg lo hi) (t,n,s)))/\Below w.heap.size w w':=by
 simp only [r5,kN,jg,jh,kT];have R:=D (show dP (.rg lo hi) (t,n,s)=(!t && (decide (lo<=n) && decide (n<=hi))) from rfl);have B:=D (hB w nm 1 lo hi ⟨#[]⟩ t n s);generalize dP (.rg lo hi) (t,n,s)=r at *;by_cases h1:lo<=n <;> have H1:=D h1 <;> cases t <;> go_enter Z,X <;> go_wp2 <;> go_ret <;> exact⟨dZ (by rw [R.out]; have h:=H1.out; simp [h] <;> omega),B.out⟩
theorem Qv (nm u:ByteArray) (t:Bool) (n:Int) (s:ByteArray) (w:Y):ah L 45 #[cv (r5 (nm,.tx u)),vl t n s] w fun e w'=>e=J (V (dP (.tx u) (t,n,s)))/\Below w.heap.size w w':=by
 simp only [r5,kN,jg,jh,kT];have R:=D (show dP (.tx u) (t,n,s)=(t && (s.data.toList == u.data.toList)) from rfl);have B:=D (hB w nm 2 0 0 u t n s);generalize dP (.tx u) (t,n,s)=r at *;by_cases h1:s.size=u.size
 ·have e1:(((s.size:Nat):Int) != ((u.size:Nat):Int))=false:=by simp [h1]
  have E:=D (Vu s u h1);clear h1;cases t
  ·go_enter Z,X;go_wp2;go_ret;exact⟨dZ (by rw [R.out]; simp),B.out⟩
  ·go_enter Z,X;go_wp2_with fail;refine (tF s u _).mono ?_;rintro e w' ⟨rfl,rfl⟩;go_wp2;go_ret;exact⟨dZ (by rw [R.out,E.out]; simp),B.out⟩
 ·have e1:(((s.size:Nat):Int) != ((u.size:Nat):Int))=true:=by simp; omega
  have E:=D (Qt s u h1);clear h1;go_enter Z,X;go_wp2;go_ret;exact⟨dZ (by rw [R.out,E.out]; simp),B.out⟩
theorem Qw (nm u:ByteArray) (t:Bool) (n:Int) (s:ByteArray) (w:Y):ah L 45 #[cv (r5 (nm,.pr u)),vl t n s] w fun e w'=>e=J (V (dP (.pr u) (t,n,s)))/\Below w.heap.size w w':=by
 simp only [r5,kN,jg,jh,kT];have R:=D (show dP (.pr u) (t,n,s)=(t && pfx u s) from rfl);have B:=D (hB w nm 3 0 0 u t n s);generalize dP (.pr u) (t,n,s)=r at *;cases t
 ·go_enter Z,X;go_wp2;go_ret;exact⟨dZ (by rw [R.out]; simp),B.out⟩
 ·go_enter Z,X;go_wp2_with fail;refine (tF s u _).mono ?_;rintro e w' ⟨rfl,rfl⟩;go_wp2;go_ret;exact⟨dZ (by rw [R.out]; simp),B.out⟩
theorem BD (c:Cn) (t:Bool) (n:Int) (s:ByteArray) (w:Y):ah L 45 #[cv (r5 c),vl t n s] w fun e w'=>e=J (V (dP c.2 (t,n,s)))/\Below w.heap.size w w':=by
 obtain⟨nm,k⟩:=c;cases k with
 | rg lo hi=>exact Qu nm lo hi t n s w
 | tx u=>exact Qv nm u t n s w
 | pr u=>exact Qw nm u t n s w
theorem Ni (s:ByteArray) (w:Y) :
  ah L 145 #[O s] w fun e w'=>e=J (vl true 0 s)/\Below w.heap.size w w':=by
 go_enter Tryz.func145,Tryz.ntmps145;go_wp2;exact aB (v:=vl true 0 s) (by simp [results,Tryz.results145,go_sem]) rfl ⟨rfl,(Below.refl _ _).alloc (au _) _⟩
theorem F7 (s:ByteArray) (w:Y) (d:Nat) (os:Array Obj) :
  ah L 145 #[O s] (grow (aG w d) os) fun e w''=>e=J (vl true 0 s)/\∃ p:Regrown,w''=grow (aG w p.d) p.os :=
 Calls.regrown_of (Ni _ _)
theorem BJ (c:Cn) (s:ByteArray) (r:Bool) (hr:dP c.2 (true,0,s)=r) (w:Y) (d:Nat) (os:Array Obj) :
  ah L 45 #[cv (r5 c),vl true 0 s] (grow (aG w d) os) fun e w''=>e=J (V r)/\∃ p:Regrown,w''=grow (aG w p.d) p.os:=by
 subst hr;exact Calls.regrown_of (BD _ _ _ _ _)
def iC:Kd->Kd->Bool
 | .pr s,.pr t=>pfx t s
 | .tx s,k=>dP k (true,0,s)
 | _,_=>false
theorem Qx (w:Y) (c d:C5):dG ((w.alloc (Q (cells5 c).toArray 106)).alloc (Q (cells5 d).toArray 106)) w.heap.size (cells5 c).toArray 106/\dG ((w.alloc (Q (cells5 c).toArray 106)).alloc (Q (cells5 d).toArray 106)) (w.heap.size+1) (cells5 d).toArray 106/\Below w.heap.size w ((w.alloc (Q (cells5 c).toArray 106)).alloc (Q (cells5 d).toArray 106)):=by
 refine⟨(dI w _ _).more _,?_,((Below.refl w.heap.size w).alloc (au _) _).alloc (by simp) _⟩;have h:=dI (w.alloc (Q (cells5 c).toArray 106)) (cells5 d).toArray 106
 rwa [show (w.alloc (Q (cells5 c).toArray 106)).heap.size=w.heap.size+1 by simp] at h
theorem Nj (na nb:ByteArray) (s:ByteArray) (kb:Kd) (w:Y):ah L 144 #[cv (r5 (na,.tx s)),cv (r5 (nb,kb))] w fun e w'=>e=J (V (iC (.tx s) kb))/\Below w.heap.size w w':=by
 obtain⟨ba,bb,hb⟩:=Qx w (r5 (na,.tx s)) (r5 (nb,kb));have BA:=D ba;have BB:=D bb;have B:=D hb;have H:=BJ (nb,kb) s _ rfl;have C:=F7 s;have R:=D (show iC (.tx s) kb=dP kb (true,0,s) from rfl);generalize iC (.tx s) kb=r at *;simp only [r5] at H ⊢;clear ba bb hb;go_enter ak,aj;go_wp2;have HH:=D H;have CC:=D C;clear H C;change Code.wp _ _ _ _ ((w.alloc (Q (cells5 (r5 (na,.tx s))).toArray 106)).alloc (Q (cells5 (r5 (nb,kb))).toArray 106));generalize (w.alloc (Q (cells5 (r5 (na,.tx s))).toArray 106)).alloc (Q (cells5 (r5 (nb,kb))).toArray 106)=W at *;have a4:=K (show W.cell? ⟨w.heap.size,4,aA⟩=ay (O s) from BA.out.cell 4);have b0:=K (show W.cell? ⟨w.heap.size+1,0,aA⟩=ay (O nb) from BB.out.cell 0);have b1:=K (show W.cell? ⟨w.heap.size+1,1,aA⟩=ay (aF .i64 (kN kb)) from BB.out.cell 1);have b2:=K (show W.cell? ⟨w.heap.size+1,2,aA⟩=ay (aF .i64 (jg kb)) from BB.out.cell 2);have b3:=K (show W.cell? ⟨w.heap.size+1,3,aA⟩=ay (aF .i64 (jh kb)) from BB.out.cell 3);have b4:=K (show W.cell? ⟨w.heap.size+1,4,aA⟩=ay (O (kT kb)) from BB.out.cell 4);refine wp_region_quiet_below (by kernel_rfl) (by kernel_rfl) ?_
 repeat (go_big_quiet_step (first | (with_reducible exact CC.out _ _ _) | (with_reducible exact HH.out _ _ _)))
 refine wpQuiet_nil ?_;intro _ hw';obtain⟨⟨dq,osq⟩,hw''⟩:=hw';subst hw'';have BZ:=D (B.out.trans ((aD W dq osq).mono B.out.size));clear a4 b0 b1 b2 b3 b4;go_wp2;go_ret;exact⟨dZ R.out.symm,BZ.out⟩
theorem Nk (na nb:ByteArray) (s:ByteArray) (t:ByteArray) (w:Y):ah L 144 #[cv (r5 (na,.pr s)),cv (r5 (nb,.pr t))] w fun e w'=>e=J (V (iC (.pr s) (.pr t)))/\Below w.heap.size w w':=by
 obtain⟨ba,bb,hb⟩:=Qx w (r5 (na,.pr s)) (r5 (nb,.pr t));have BA:=D ba;have BB:=D bb;have B:=D hb;have H:=BJ (nb,.pr t) s _ rfl;have C:=F7 s;have R:=D (show iC (.pr s) (.pr t)=dP (.pr t) (true,0,s) by simp only [iC,dP,Bool.true_and]);generalize iC (.pr s) (.pr t)=r at *;simp only [r5] at H ⊢;clear ba bb hb;go_enter ak,aj;go_wp2;have HH:=D H;have CC:=D C;clear H C;change Code.wp _ _ _ _ ((w.alloc (Q (cells5 (r5 (na,.pr s))).toArray 106)).alloc (Q (cells5 (r5 (nb,.pr t))).toArray 106));generalize (w.alloc (Q (cells5 (r5 (na,.pr s))).toArray 106)).alloc (Q (cells5 (r5 (nb,.pr t))).toArray 106)=W at *;have a4:=K (show W.cell? ⟨w.heap.size,4,aA⟩=ay (O s) from BA.out.cell 4);have b0:=K (show W.cell? ⟨w.heap.size+1,0,aA⟩=ay (O nb) from BB.out.cell 0);have b1:=K (show W.cell? ⟨w.heap.size+1,1,aA⟩=ay (aF .i64 (kN (.pr t))) from BB.out.cell 1);have b2:=K (show W.cell? ⟨w.heap.size+1,2,aA⟩=ay (aF .i64 (jg (.pr t))) from BB.out.cell 2);have b3:=K (show W.cell? ⟨w.heap.size+1,3,aA⟩=ay (aF .i64 (jh (.pr t))) from BB.out.cell 3);have b4:=K (show W.cell? ⟨w.heap.size+1,4,aA⟩=ay (O (kT (.pr t))) from BB.out.cell 4);refine wp_region_quiet_below (by kernel_rfl) (by kernel_rfl) ?_
 repeat (go_big_quiet_step (first | (with_reducible exact CC.out _ _ _) | (with_reducible exact HH.out _ _ _)))
 refine wpQuiet_nil ?_;intro _ hw';obtain⟨⟨dq,osq⟩,hw''⟩:=hw';subst hw'';have BZ:=D (B.out.trans ((aD W dq osq).mono B.out.size));clear a4 b0 b1 b2 b3 b4;go_wp2;go_ret;exact⟨dZ R.out.symm,BZ.out⟩
theorem vZ (na nb:ByteArray) (ka kb:Kd) (w:Y) (h:(∃ lo hi,ka=.rg lo hi)\/(∃ s,ka=.pr s)/\¬ ∃ t,kb=.pr t):ah L 144 #[cv (r5 (na,ka)),cv (r5 (nb,kb))] w fun e w'=>e=J (V (iC ka kb))/\Below w.heap.size w w':=by
 have B:=D (Qx w (r5 (na,ka)) (r5 (nb,kb))).2.2;rcases h with⟨lo,hi,rfl⟩|⟨⟨s,rfl⟩,h⟩
 ·have R:=D (show iC (.rg lo hi) kb=false from rfl);generalize iC (.rg lo hi) kb=r at *;simp only [r5];go_enter ak,aj;go_wp2;go_ret;exact⟨dZ R.out.symm,B.out⟩
 ·have R:=D (show iC (.pr s) kb=false by
   cases kb with
   | pr t=>exact absurd ⟨t,rfl⟩ h
   | _=>rfl)
  have e:((kN kb) != (3:Int))=true:=by
   cases kb with
   | pr t=>exact absurd ⟨t,rfl⟩ h
   | _=>rfl
  generalize iC (.pr s) kb=r at *;clear h;simp only [r5];go_enter ak,aj;go_wp2;go_ret;exact⟨dZ R.out.symm,B.out⟩
theorem yS (a b:Cn) (w:Y):ah L 144 #[cv (r5 a),cv (r5 b)] w fun e w'=>e=J (V (iC a.2 b.2))/\Below w.heap.size w w':=by
 obtain⟨na,ka⟩:=a;obtain⟨nb,kb⟩:=b;cases ka with
 | rg lo hi=>exact vZ na nb _ kb w (Or.inl ⟨lo,hi,rfl⟩)
 | tx s=>exact Nj na nb s kb w
 | pr s =>
  cases kb with
  | pr t=>exact Nk na nb s t w
  | rg lo hi=>exact vZ na nb _ _ w (Or.inr ⟨⟨s,rfl⟩,by rintro⟨t,h⟩; cases h⟩)
  | tx t=>exact vZ na nb _ _ w (Or.inr ⟨⟨s,rfl⟩,by rintro⟨t',h⟩; cases h⟩)
def Km (n:ByteArray) (r:Option Kd) (w:Y) (e:Ending) (w':Y):Prop:=(∃ x,e=J (.tuple #[cv x,V r.isSome])/\∀ k,r=ay k->x=r5 (n,k))/\Below w.heap.size w w'
theorem b3 (w:Y) (o p q:Obj):Below w.heap.size w (((w.alloc o).alloc p).alloc q):=(((Below.refl w.heap.size w).alloc (au _) _).alloc (by simp) _).alloc (by simp; omega) _
theorem F9 (na nb:ByteArray) (a b c d:Int) (w:Y):ah L 143 #[cv (na,1,a,b,⟨#[]⟩),cv (nb,1,c,d,⟨#[]⟩)] w (Km na (eX (.rg a b) (.rg c d)) w):=by
 have R:=D (show eX (.rg a b) (.rg c d)=if max a c<=min b d then ay (.rg (max a c) (min b d)) else aA from rfl);generalize eX (.rg a b) (.rg c d)=r at *;go_enter Tryz.func143,Tryz.ntmps143;go_wp2_with fail
 go_region
 have e1:(if a<c then c else a)=max a c:=by split <;> omega
 have e2:(if d<b then d else b)=min b d:=by split <;> omega
 try rw [e1]
 try rw [e2]
 clear e1 e2;generalize max a c=M at R ⊢;generalize min b d=N at R ⊢;by_cases h:M<=N
 ·have h1:¬ N<M:=by omega
  have R2:=D (show r=ay (.rg M N) by rw [R.out,if_pos h]);clear h;go_wp2;refine aB (v:=.tuple #[cv (na,1,M,N,⟨#[]⟩),V true]) (by simp [results,aC,go_sem]) rfl ?_;refine⟨⟨(na,1,M,N,⟨#[]⟩),by rw [R2.out]; rfl,fun k hk=>?_⟩,(b3 w _ _ _).drew⟩;rw [R2.out] at hk;rw [<- Option.some.inj hk]
  rfl
 ·have h1:N<M:=by omega
  have R2:=D (show r=aA by rw [R.out,if_neg h]);clear h;go_wp2;refine aB (v:=.tuple #[cv (⟨#[]⟩,0,0,0,⟨#[]⟩),V false]) (by simp [results,aC,go_sem]) rfl ?_;refine⟨⟨(⟨#[]⟩,0,0,0,⟨#[]⟩),by rw [R2.out]; rfl,fun k hk=>?_⟩,(b3 w _ _ _).drew⟩;rw [R2.out] at hk;cases hk
theorem yh (a b:Kd):eX a b=(match a,b with
 | .rg p q,.rg r t=>if max p r<=min q t then ay (.rg (max p r) (min q t)) else aA
 | a,b=>if iC a b then ay a else if iC b a then ay b else aA):=by
 cases a <;> cases b <;> simp [eX,iC,dP]
 ·rename_i s t
  by_cases h:s.data=t.data
  ·rw [if_pos h,if_pos h]
  ·rw [if_neg h,if_neg h,if_neg (fun e=>h e.symm)]
 ·rename_i s t
  by_cases h1:pfx s t=true <;> by_cases h2:pfx t s=true <;> simp [h1,h2];have e1:=(fE _ _).1 h1;have e2:=(fE _ _).1 h2;rw [rD (e2.eq_of_length_le e1.length_le)]
end Go.Proofs.YtkcfgbddlpomgaaGreat.Pr
