/-
  Holds of package pre. Conditions as told.
-/
import Derived.Test.YtghlpefopidlaaaGreatOQ003
import Derived.Test.YtghlpefopidlaaaGreatOQ005
import Derived.Lib.Strings
import Derived.Lib.QuietBelow
import Derived.BigQuiet
import Derived.BigRegion
set_option maxRecDepth 100000
set_option maxHeartbeats 64000000
open _root_.Array renaming length_toList->Q
open _root_.Go renaming World->Y,Calls->Z
open Go.Ending renaming returned->J
open Go.Lib renaming hid->D,size_eq->aC
open Go.Obj renaming cells->O
open Go.Proofs.Tryz renaming prog->K,ntmps187->U,func187->X,ntmps168->ah,func168->aj,results167->aA
open Go.Value renaming string->L,bool->V,int->aB
open _root_.Nat renaming le_refl->ak
open _root_.Option renaming some->au,none->ay
namespace Go.Proofs.YtghlpefopidlaaaGreat.Pr
open Go.RowKit Go.Sort Pu Rw Va
theorem GK (s p:ByteArray) (w:Y):Z K 201 #[L s,L p] w fun e w'=>e=J (V (pfx p s))/\w'=w:=by
 show Z K _ _ _ fun e w'=>e=J (V (Lib.hasPrefix s.data.toList p.data.toList))/\w'=w;rw [<- Lib.hasPrefix_of_take,<- aC,<- aC];go_enter Tryz.func201,Tryz.ntmps201;go_wp2
 ·rename_i h
  go_ret;refine⟨?_,rfl⟩;show J (V ((s.extract 0 p.size).toList == p.toList))=_;rw [Lib.extract_toList,Lib.toList_data];simp [h]
 ·rename_i h
  go_ret;refine⟨?_,rfl⟩;show J (V false)=_;simp [h]
theorem pO (s p:ByteArray) (w:Y):Z K 196 #[L s,L p] w fun e w'=>e=J (V (pfx p s))/\w'=w:=by
 go_enter Tryz.func196,Tryz.ntmps196;go_wp2_with fail;refine (GK s p w).mono ?_;rintro e w' ⟨rfl,rfl⟩;go_wp2;go_ret;exact⟨rfl,rfl⟩
theorem Ns (s u:ByteArray) (h:s.size=u.size):pfx u s=(s.data.toList == u.data.toList):=by
 have hl:u.data.toList.length=s.data.toList.length:=by rw [Q,Q]; exact h.symm
 rw [Bool.eq_iff_iff,beq_iff_eq,eX];exact⟨fun h1=>(h1.eq_of_length hl).symm,fun h1=>by rw [h1]; exact List.prefix_refl _⟩
theorem JL (s u:ByteArray) (h:¬ s.size=u.size):(s.data.toList == u.data.toList)=false:=by
 rw [beq_eq_false_iff_ne];intro e;have:=congrArg List.length e;rw [Q,Q] at this;exact h this
theorem hB (w:Y) (nm:ByteArray) (k lo hi:Int) (u:ByteArray) (t:Bool) (n:Int) (s:ByteArray):Below w.heap.size w ((w.alloc (O #[L nm,aB .i64 k,aB .i64 lo,aB .i64 hi,L u] 91)).alloc (O #[V t,aB .i64 n,L s] 173)) :=
 ((Below.refl w.heap.size w).alloc (ak _) _).alloc (by simp) _
theorem JM (nm:ByteArray) (lo hi:Int) (t:Bool) (n:Int) (s:ByteArray) (w:Y):Z K 187 #[cv (r5 (nm,.rg lo hi)),vl t n s] w fun e w'=>e=J (V (dQ (.rg lo hi) (t,n,s)))/\Below w.heap.size w w':=by
 simp only [r5,kN,lN,lQ,kT];have R:=D (show dQ (.rg lo hi) (t,n,s)=(!t && (decide (lo<=n) && decide (n<=hi))) from rfl);have B:=D (hB w nm 1 lo hi ⟨#[]⟩ t n s);generalize dQ (.rg lo hi) (t,n,s)=r at *;by_cases h1:lo<=n <;> have H1:=D h1 <;> cases t <;> go_enter X,U <;> go_wp2 <;> go_ret <;> exact⟨eO (by rw [R.out]; have h:=H1.out; simp [h] <;> omega),B.out⟩
theorem JN (nm u:ByteArray) (t:Bool) (n:Int) (s:ByteArray) (w:Y):Z K 187 #[cv (r5 (nm,.tx u)),vl t n s] w fun e w'=>e=J (V (dQ (.tx u) (t,n,s)))/\Below w.heap.size w w':=by
 simp only [r5,kN,lN,lQ,kT];have R:=D (show dQ (.tx u) (t,n,s)=(t && (s.data.toList == u.data.toList)) from rfl);have B:=D (hB w nm 2 0 0 u t n s);generalize dQ (.tx u) (t,n,s)=r at *;by_cases h1:s.size=u.size
 ·have e1:(((s.size:Nat):Int) != ((u.size:Nat):Int))=false:=by simp [h1]
  have E:=D (Ns s u h1);clear h1;cases t
  ·go_enter X,U;go_wp2;go_ret;exact⟨eO (by rw [R.out]; simp),B.out⟩
  ·go_enter X,U;go_wp2_with fail;refine (pO s u _).mono ?_;rintro e w' ⟨rfl,rfl⟩;go_wp2;go_ret;exact⟨eO (by rw [R.out,E.out]; simp),B.out⟩
 ·have e1:(((s.size:Nat):Int) != ((u.size:Nat):Int))=true:=by simp; omega
  have E:=D (JL s u h1);clear h1;go_enter X,U;go_wp2;go_ret;exact⟨eO (by rw [R.out,E.out]; simp),B.out⟩
theorem JO (nm u:ByteArray) (t:Bool) (n:Int) (s:ByteArray) (w:Y):Z K 187 #[cv (r5 (nm,.pr u)),vl t n s] w fun e w'=>e=J (V (dQ (.pr u) (t,n,s)))/\Below w.heap.size w w':=by
 simp only [r5,kN,lN,lQ,kT];have R:=D (show dQ (.pr u) (t,n,s)=(t && pfx u s) from rfl);have B:=D (hB w nm 3 0 0 u t n s);generalize dQ (.pr u) (t,n,s)=r at *;cases t
 ·go_enter X,U;go_wp2;go_ret;exact⟨eO (by rw [R.out]; simp),B.out⟩
 ·go_enter X,U;go_wp2_with fail;refine (pO s u _).mono ?_;rintro e w' ⟨rfl,rfl⟩;go_wp2;go_ret;exact⟨eO (by rw [R.out]; simp),B.out⟩
theorem GN (c:Cn) (t:Bool) (n:Int) (s:ByteArray) (w:Y):Z K 187 #[cv (r5 c),vl t n s] w fun e w'=>e=J (V (dQ c.2 (t,n,s)))/\Below w.heap.size w w':=by
 obtain⟨nm,k⟩:=c;cases k with
 | rg lo hi=>exact JM nm lo hi t n s w
 | tx u=>exact JN nm u t n s w
 | pr u=>exact JO nm u t n s w
theorem GQ (s:ByteArray) (w:Y) :
  Z K 188 #[L s] w fun e w'=>e=J (vl true 0 s)/\Below w.heap.size w w':=by
 go_enter Tryz.func188,Tryz.ntmps188;go_wp2;exact bodyPost_ret (v:=vl true 0 s) (by simp [results,Tryz.results188,go_sem]) rfl ⟨rfl,(Below.refl _ _).alloc (ak _) _⟩
theorem Ai (s:ByteArray) (w:Y) (d:Nat) (os:Array Obj) :
  Z K 188 #[L s] (grow (redrawn w d) os) fun e w''=>e=J (vl true 0 s)/\∃ p:Regrown,w''=grow (redrawn w p.d) p.os :=
 Calls.regrown_of (GQ _ _)
theorem xA (c:Cn) (s:ByteArray) (r:Bool) (hr:dQ c.2 (true,0,s)=r) (w:Y) (d:Nat) (os:Array Obj) :
  Z K 187 #[cv (r5 c),vl true 0 s] (grow (redrawn w d) os) fun e w''=>e=J (V r)/\∃ p:Regrown,w''=grow (redrawn w p.d) p.os:=by
 subst hr;exact Calls.regrown_of (GN _ _ _ _ _)
def gH:Kd->Kd->Bool
 | .pr s,.pr t=>pfx t s
 | .tx s,k=>dQ k (true,0,s)
 | _,_=>false
theorem JQ (w:Y) (c d:C5):dx ((w.alloc (O (cells5 c).toArray 91)).alloc (O (cells5 d).toArray 91)) w.heap.size (cells5 c).toArray 91/\dx ((w.alloc (O (cells5 c).toArray 91)).alloc (O (cells5 d).toArray 91)) (w.heap.size+1) (cells5 d).toArray 91/\Below w.heap.size w ((w.alloc (O (cells5 c).toArray 91)).alloc (O (cells5 d).toArray 91)):=by
 refine⟨(dK w _ _).more _,?_,((Below.refl w.heap.size w).alloc (ak _) _).alloc (by simp) _⟩;have h:=dK (w.alloc (O (cells5 c).toArray 91)) (cells5 d).toArray 91
 rwa [show (w.alloc (O (cells5 c).toArray 91)).heap.size=w.heap.size+1 by simp] at h
theorem GU (na nb:ByteArray) (s:ByteArray) (kb:Kd) (w:Y):Z K 168 #[cv (r5 (na,.tx s)),cv (r5 (nb,kb))] w fun e w'=>e=J (V (gH (.tx s) kb))/\Below w.heap.size w w':=by
 obtain⟨ba,bb,hb⟩:=JQ w (r5 (na,.tx s)) (r5 (nb,kb));have BA:=D ba;have BB:=D bb;have B:=D hb;have H:=xA (nb,kb) s _ rfl;have C:=Ai s;have R:=D (show gH (.tx s) kb=dQ kb (true,0,s) from rfl);generalize gH (.tx s) kb=r at *;simp only [r5] at H ⊢;clear ba bb hb;go_enter aj,ah;go_wp2;have HH:=D H;have CC:=D C;clear H C;change Code.wp _ _ _ _ ((w.alloc (O (cells5 (r5 (na,.tx s))).toArray 91)).alloc (O (cells5 (r5 (nb,kb))).toArray 91));generalize (w.alloc (O (cells5 (r5 (na,.tx s))).toArray 91)).alloc (O (cells5 (r5 (nb,kb))).toArray 91)=W at *;have a4:=cell_regrown (show W.cell? ⟨w.heap.size,4,ay⟩=au (L s) from BA.out.cell 4);have b0:=cell_regrown (show W.cell? ⟨w.heap.size+1,0,ay⟩=au (L nb) from BB.out.cell 0);have b1:=cell_regrown (show W.cell? ⟨w.heap.size+1,1,ay⟩=au (aB .i64 (kN kb)) from BB.out.cell 1);have b2:=cell_regrown (show W.cell? ⟨w.heap.size+1,2,ay⟩=au (aB .i64 (lN kb)) from BB.out.cell 2);have b3:=cell_regrown (show W.cell? ⟨w.heap.size+1,3,ay⟩=au (aB .i64 (lQ kb)) from BB.out.cell 3);have b4:=cell_regrown (show W.cell? ⟨w.heap.size+1,4,ay⟩=au (L (kT kb)) from BB.out.cell 4);refine wp_region_quiet_below (by kernel_rfl) (by kernel_rfl) ?_
 repeat (go_big_quiet_step (first | (with_reducible exact CC.out _ _ _) | (with_reducible exact HH.out _ _ _)))
 refine wpQuiet_nil ?_;intro _ hw';obtain⟨⟨dq,osq⟩,hw''⟩:=hw';subst hw'';have BZ:=D (B.out.trans ((below_regrown W dq osq).mono B.out.size));clear a4 b0 b1 b2 b3 b4;go_wp2;go_ret;exact⟨eO R.out.symm,BZ.out⟩
theorem GV (na nb:ByteArray) (s:ByteArray) (t:ByteArray) (w:Y):Z K 168 #[cv (r5 (na,.pr s)),cv (r5 (nb,.pr t))] w fun e w'=>e=J (V (gH (.pr s) (.pr t)))/\Below w.heap.size w w':=by
 obtain⟨ba,bb,hb⟩:=JQ w (r5 (na,.pr s)) (r5 (nb,.pr t));have BA:=D ba;have BB:=D bb;have B:=D hb;have H:=xA (nb,.pr t) s _ rfl;have C:=Ai s;have R:=D (show gH (.pr s) (.pr t)=dQ (.pr t) (true,0,s) by simp only [gH,dQ,Bool.true_and]);generalize gH (.pr s) (.pr t)=r at *;simp only [r5] at H ⊢;clear ba bb hb;go_enter aj,ah;go_wp2;have HH:=D H;have CC:=D C;clear H C;change Code.wp _ _ _ _ ((w.alloc (O (cells5 (r5 (na,.pr s))).toArray 91)).alloc (O (cells5 (r5 (nb,.pr t))).toArray 91));generalize (w.alloc (O (cells5 (r5 (na,.pr s))).toArray 91)).alloc (O (cells5 (r5 (nb,.pr t))).toArray 91)=W at *;have a4:=cell_regrown (show W.cell? ⟨w.heap.size,4,ay⟩=au (L s) from BA.out.cell 4);have b0:=cell_regrown (show W.cell? ⟨w.heap.size+1,0,ay⟩=au (L nb) from BB.out.cell 0);have b1:=cell_regrown (show W.cell? ⟨w.heap.size+1,1,ay⟩=au (aB .i64 (kN (.pr t))) from BB.out.cell 1);have b2:=cell_regrown (show W.cell? ⟨w.heap.size+1,2,ay⟩=au (aB .i64 (lN (.pr t))) from BB.out.cell 2);have b3:=cell_regrown (show W.cell? ⟨w.heap.size+1,3,ay⟩=au (aB .i64 (lQ (.pr t))) from BB.out.cell 3);have b4:=cell_regrown (show W.cell? ⟨w.heap.size+1,4,ay⟩=au (L (kT (.pr t))) from BB.out.cell 4);refine wp_region_quiet_below (by kernel_rfl) (by kernel_rfl) ?_
 repeat (go_big_quiet_step (first | (with_reducible exact CC.out _ _ _) | (with_reducible exact HH.out _ _ _)))
 refine wpQuiet_nil ?_;intro _ hw';obtain⟨⟨dq,osq⟩,hw''⟩:=hw';subst hw'';have BZ:=D (B.out.trans ((below_regrown W dq osq).mono B.out.size));clear a4 b0 b1 b2 b3 b4;go_wp2;go_ret;exact⟨eO R.out.symm,BZ.out⟩
theorem rF (na nb:ByteArray) (ka kb:Kd) (w:Y) (h:(∃ lo hi,ka=.rg lo hi)\/(∃ s,ka=.pr s)/\¬ ∃ t,kb=.pr t):Z K 168 #[cv (r5 (na,ka)),cv (r5 (nb,kb))] w fun e w'=>e=J (V (gH ka kb))/\Below w.heap.size w w':=by
 have B:=D (JQ w (r5 (na,ka)) (r5 (nb,kb))).2.2;rcases h with⟨lo,hi,rfl⟩|⟨⟨s,rfl⟩,h⟩
 ·have R:=D (show gH (.rg lo hi) kb=false from rfl);generalize gH (.rg lo hi) kb=r at *;simp only [r5];go_enter aj,ah;go_wp2;go_ret;exact⟨eO R.out.symm,B.out⟩
 ·have R:=D (show gH (.pr s) kb=false by
   cases kb with
   | pr t=>exact absurd ⟨t,rfl⟩ h
   | _=>rfl)
  have e:((kN kb) != (3:Int))=true:=by
   cases kb with
   | pr t=>exact absurd ⟨t,rfl⟩ h
   | _=>rfl
  generalize gH (.pr s) kb=r at *;clear h;simp only [r5];go_enter aj,ah;go_wp2;go_ret;exact⟨eO R.out.symm,B.out⟩
theorem uE (a b:Cn) (w:Y):Z K 168 #[cv (r5 a),cv (r5 b)] w fun e w'=>e=J (V (gH a.2 b.2))/\Below w.heap.size w w':=by
 obtain⟨na,ka⟩:=a;obtain⟨nb,kb⟩:=b;cases ka with
 | rg lo hi=>exact rF na nb _ kb w (Or.inl ⟨lo,hi,rfl⟩)
 | tx s=>exact GU na nb s kb w
 | pr s =>
  cases kb with
  | pr t=>exact GV na nb s t w
  | rg lo hi=>exact rF na nb _ _ w (Or.inr ⟨⟨s,rfl⟩,by rintro⟨t,h⟩; cases h⟩)
  | tx t=>exact rF na nb _ _ w (Or.inr ⟨⟨s,rfl⟩,by rintro⟨t',h⟩; cases h⟩)
def Fa (n:ByteArray) (r:Option Kd) (w:Y) (e:Ending) (w':Y):Prop:=(∃ x,e=J (.tuple #[cv x,V r.isSome])/\∀ k,r=au k->x=r5 (n,k))/\Below w.heap.size w w'
theorem b3 (w:Y) (o p q:Obj):Below w.heap.size w (((w.alloc o).alloc p).alloc q):=(((Below.refl w.heap.size w).alloc (ak _) _).alloc (by simp) _).alloc (by simp; omega) _
theorem Aj (na nb:ByteArray) (a b c d:Int) (w:Y):Z K 167 #[cv (na,1,a,b,⟨#[]⟩),cv (nb,1,c,d,⟨#[]⟩)] w (Fa na (fE (.rg a b) (.rg c d)) w):=by
 have R:=D (show fE (.rg a b) (.rg c d)=if max a c<=min b d then au (.rg (max a c) (min b d)) else ay from rfl);generalize fE (.rg a b) (.rg c d)=r at *;go_enter Tryz.func167,Tryz.ntmps167;go_wp2_with fail
 go_region
 have e1:(if a<c then c else a)=max a c:=by split <;> omega
 have e2:(if d<b then d else b)=min b d:=by split <;> omega
 try rw [e1]
 try rw [e2]
 clear e1 e2;generalize max a c=M at R ⊢;generalize min b d=N at R ⊢;by_cases h:M<=N
 ·have h1:¬ N<M:=by omega
  have R2:=D (show r=au (.rg M N) by rw [R.out,if_pos h]);clear h;go_wp2;refine bodyPost_ret (v:=.tuple #[cv (na,1,M,N,⟨#[]⟩),V true]) (by simp [results,aA,go_sem]) rfl ?_;refine⟨⟨(na,1,M,N,⟨#[]⟩),by rw [R2.out]; rfl,fun k hk=>?_⟩,(b3 w _ _ _).drew⟩;rw [R2.out] at hk;rw [<- Option.some.inj hk]
  rfl
 ·have h1:N<M:=by omega
  have R2:=D (show r=ay by rw [R.out,if_neg h]);clear h;go_wp2;refine bodyPost_ret (v:=.tuple #[cv (⟨#[]⟩,0,0,0,⟨#[]⟩),V false]) (by simp [results,aA,go_sem]) rfl ?_;refine⟨⟨(⟨#[]⟩,0,0,0,⟨#[]⟩),by rw [R2.out]; rfl,fun k hk=>?_⟩,(b3 w _ _ _).drew⟩;rw [R2.out] at hk;cases hk
theorem tL (a b:Kd):fE a b=(match a,b with
 | .rg p q,.rg r t=>if max p r<=min q t then au (.rg (max p r) (min q t)) else ay
 | a,b=>if gH a b then au a else if gH b a then au b else ay):=by
 cases a <;> cases b <;> simp [fE,gH,dQ]
 ·rename_i s t
  by_cases h:s.data=t.data
  ·rw [if_pos h,if_pos h]
  ·rw [if_neg h,if_neg h,if_neg (fun e=>h e.symm)]
 ·rename_i s t
  by_cases h1:pfx s t=true <;> by_cases h2:pfx t s=true <;> simp [h1,h2];have e1:=(eX _ _).1 h1;have e2:=(eX _ _).1 h2;rw [qo (e2.eq_of_length_le e1.length_le)]
end Go.Proofs.YtghlpefopidlaaaGreat.Pr
