/-
  Numbers as eight byt. Conditions as told.
-/
import Derived.Test.YtkcfgbddlpomgaaGreatOQ004
import Derived.Test.YtkcfgbddlpomgaaGreatOQ001
import Derived.Lib.Strings
import Derived.Lib.QuietBelow
import Derived.BigQuiet
import Derived.BigRegion
set_option maxRecDepth 100000
set_option maxHeartbeats 64000000
open _root_.Array renaming length_toList->au
open _root_.Bool renaming true->aC,false->aL
open _root_.Go renaming cell_regrown->U,World->Y,Calls->aD,bodyPost_ret->aJ,Value->aM,below_regrown->aN,redrawn->aP,Act->aR
open Go.Ending renaming returned->O
open Go.Lib renaming hid->J,size_eq->aQ
open Go.Obj renaming cells->ah
open Go.Proofs.Tryz renaming prog->X,ntmps45->aA,func45->aB,ntmps144->aF,func144->aG,results143->aK
open Go.Region renaming binds->ak
open Go.Value renaming string->Z,bool->ay,int->aO
open _root_.Nat renaming le_refl->aH
open _root_.Option renaming some->aj,none->aI
namespace Go.Proofs.YtkcfgbddlpomgaaGreat
namespace Nm
def hor (l:List UInt8):Int:=l.foldl (fun h b=>h * 256+(b.toNat:Int)) 0
def qg (l:List UInt8):Int:=IntKind.i64.wrap (hor l)
end Nm
namespace Pr
open Go.RowKit Go.Sort Pu Rw Va
theorem Qd (s p:ByteArray) (w:Y):aD X 106 #[Z s,Z p] w fun e w'=>e=O (ay (pfx p s))/\w'=w:=by
 show aD X _ _ _ fun e w'=>e=O (ay (Lib.hasPrefix s.data.toList p.data.toList))/\w'=w;rw [<- Lib.hasPrefix_of_take,<- aQ,<- aQ];go_enter Tryz.func106,Tryz.ntmps106;go_wp2
 ·rename_i h
  go_ret;refine⟨?_,rfl⟩;show O (ay ((s.extract 0 p.size).toList == p.toList))=_;rw [Lib.extract_toList,Lib.toList_data];simp [h]
 ·rename_i h
  go_ret;refine⟨?_,rfl⟩;show O (ay aL)=_;simp [h]
theorem vB (s p:ByteArray) (w:Y):aD X 77 #[Z s,Z p] w fun e w'=>e=O (ay (pfx p s))/\w'=w:=by
 go_enter Tryz.func77,Tryz.ntmps77;go_wp2_with fail;refine (Qd s p w).mono ?_;rintro e w' ⟨rfl,rfl⟩;go_wp2;go_ret;exact⟨rfl,rfl⟩
theorem YD (s u:ByteArray) (h:s.size=u.size):pfx u s=(s.data.toList == u.data.toList):=by
 have hl:u.data.toList.length=s.data.toList.length:=by rw [au,au]; exact h.symm
 rw [Bool.eq_iff_iff,beq_iff_eq,fU];exact⟨fun h1=>(h1.eq_of_length hl).symm,fun h1=>by rw [h1]; exact List.prefix_refl _⟩
theorem TU (s u:ByteArray) (h:¬ s.size=u.size):(s.data.toList == u.data.toList)=aL:=by
 rw [beq_eq_false_iff_ne];intro e;have:=congrArg List.length e;rw [au,au] at this;exact h this
theorem hB (w:Y) (nm:ByteArray) (k lo hi:Int) (u:ByteArray) (t:Bool) (n:Int) (s:ByteArray):Below w.heap.size w ((w.alloc (ah #[Z nm,aO .i64 k,aO .i64 lo,aO .i64 hi,Z u] 106)).alloc (ah #[ay t,aO .i64 n,Z s] 93)) :=
 ((Below.refl w.heap.size w).alloc (aH _) _).alloc (by simp) _
theorem TV (nm:ByteArray) (lo hi:Int) (t:Bool) (n:Int) (s:ByteArray) (w:Y):aD X 45 #[cv (r5 (nm,.rg lo hi)),vl t n s] w fun e w'=>e=O (ay (eG (.rg lo hi) (t,n,s)))/\Below w.heap.size w w':=by
 simp only [r5,kN,jN,jO,kT];have R:=J (show eG (.rg lo hi) (t,n,s)=(!t && (decide (lo<=n) && decide (n<=hi))) from rfl);have B:=J (hB w nm 1 lo hi ⟨#[]⟩ t n s);generalize eG (.rg lo hi) (t,n,s)=r at *;by_cases h1:lo<=n <;> have H1:=J h1 <;> cases t <;> go_enter aB,aA <;> go_wp2 <;> go_ret <;> exact⟨fu (by rw [R.out]; have h:=H1.out; simp [h] <;> omega),B.out⟩
theorem TW (nm u:ByteArray) (t:Bool) (n:Int) (s:ByteArray) (w:Y):aD X 45 #[cv (r5 (nm,.tx u)),vl t n s] w fun e w'=>e=O (ay (eG (.tx u) (t,n,s)))/\Below w.heap.size w w':=by
 simp only [r5,kN,jN,jO,kT];have R:=J (show eG (.tx u) (t,n,s)=(t && (s.data.toList == u.data.toList)) from rfl);have B:=J (hB w nm 2 0 0 u t n s);generalize eG (.tx u) (t,n,s)=r at *;by_cases h1:s.size=u.size
 ·have e1:(((s.size:Nat):Int) != ((u.size:Nat):Int))=aL:=by simp [h1]
  have E:=J (YD s u h1);clear h1;cases t
  ·go_enter aB,aA;go_wp2;go_ret;exact⟨fu (by rw [R.out]; simp),B.out⟩
  ·go_enter aB,aA;go_wp2_with fail;refine (vB s u _).mono ?_;rintro e w' ⟨rfl,rfl⟩;go_wp2;go_ret;exact⟨fu (by rw [R.out,E.out]; simp),B.out⟩
 ·have e1:(((s.size:Nat):Int) != ((u.size:Nat):Int))=aC:=by simp; omega
  have E:=J (TU s u h1);clear h1;go_enter aB,aA;go_wp2;go_ret;exact⟨fu (by rw [R.out,E.out]; simp),B.out⟩
theorem TY (nm u:ByteArray) (t:Bool) (n:Int) (s:ByteArray) (w:Y):aD X 45 #[cv (r5 (nm,.pr u)),vl t n s] w fun e w'=>e=O (ay (eG (.pr u) (t,n,s)))/\Below w.heap.size w w':=by
 simp only [r5,kN,jN,jO,kT];have R:=J (show eG (.pr u) (t,n,s)=(t && pfx u s) from rfl);have B:=J (hB w nm 3 0 0 u t n s);generalize eG (.pr u) (t,n,s)=r at *;cases t
 ·go_enter aB,aA;go_wp2;go_ret;exact⟨fu (by rw [R.out]; simp),B.out⟩
 ·go_enter aB,aA;go_wp2_with fail;refine (vB s u _).mono ?_;rintro e w' ⟨rfl,rfl⟩;go_wp2;go_ret;exact⟨fu (by rw [R.out]; simp),B.out⟩
theorem Dv (c:Cn) (t:Bool) (n:Int) (s:ByteArray) (w:Y):aD X 45 #[cv (r5 c),vl t n s] w fun e w'=>e=O (ay (eG c.2 (t,n,s)))/\Below w.heap.size w w':=by
 obtain⟨nm,k⟩:=c;cases k with
 | rg lo hi=>exact TV nm lo hi t n s w
 | tx u=>exact TW nm u t n s w
 | pr u=>exact TY nm u t n s w
end Pr
namespace Rg
open Go.RowKit
structure aal (i N:Nat) (dst:Nat->Option Nat) (last:Nat->Nat) (V:Nat->aM->Y->Prop) (base:aR) (o:Oper) (a:aR) (w:Y):Prop where
 kp:∀ j u,(∀ k,k<N->dst k≠aj j)->base.tmps[j]?=aj u->a.eval (.tmp j)=u
 at_:∀ e∈o.after,ak .any e=aC->(last e.on=i\/N<=last e.on)->∀ d,dst e.on=aj d->V e.on (a.eval (.tmp d)) w
 st:∀ e∈o.after,ak .any e=aC->(last e.on=i\/N<=last e.on)->∃ v,V e.on v w
theorem Dw (a:aR) (d:Option Nat) (v:aM) (j:Nat) (hj:d≠aj j):(a.put d v).tmps[j]?=a.tmps[j]?:=by
 cases d with
 | none=>rfl
 | some d=>exact get_put _ _ _ _ (fun e=>hj (by rw [e]))
theorem T9 (a:aR) (d:Option Nat) (v:aM):(a.put d v).tmps.size=a.tmps.size:=by
 cases d with
 | none=>rfl
 | some d=>exact size_put _ _ _
theorem put_defers (a:aR) (d:Option Nat) (v:aM):(a.put d v).defers=a.defers:=by
 cases d <;> rfl
structure PhD (l:List Oper) (N:Nat) (dst:Nat->Option Nat) (last:Nat->Nat) (V:Nat->aM->Y->Prop) (F:(Nat->Prop)->Y->Prop) (base:aR) (L:Array Bool) (a:aR) (x:Y):Prop where
 cl:∀ i o,done L i->l[i]?=aj o->∀ e∈o.after,ak .any e=aC->done L e.on
 df:a.defers=base.defers
 sz:a.tmps.size=base.tmps.size
 kp:∀ j,(∀ i,i<N->dst i≠aj j)->a.tmps[j]?=base.tmps[j]?
 fr:F (done L) x
 no:∀ i,N<=i->¬ done L i
 val:∃ vs:Nat->aM,∀ i,i<N->done L i->(∀ d,dst i=aj d->a.tmps[d]?=aj (vs i))/\(¬ done L (last i)->V i (vs i) x)
theorem yV {P:Program} {Q:Exit->aR->Y->Prop} {id:Nat} {base:aR} {w:Y} {l:List Oper} (N:Nat) (dst:Nat->Option Nat) (last:Nat->Nat) (V:Nat->aM->Y->Prop) (F:(Nat->Prop)->Y->Prop)
  (hm:P.follows .mixedOrders=aC) (hf:Po l.toArray=aC) (hN:l.length=N) (hinj:∀ i j d,i<N->j<N->dst i=aj d->dst j=aj d->i=j) (hs:∀ i d,i<N->dst i=aj d->d<base.tmps.size) (h0:F (fun _=>False) w.drew)
  (hop:∀ i o,i<N->l[i]?=aj o->∀ a w' (D:Nat->Prop),¬ D i->(∀ j oj,D j->l[j]?=aj oj->∀ e∈oj.after,ak .any e=aC->D e.on)->(∀ e∈o.after,ak .any e=aC->D e.on)->F D w'->aal i N dst last V base o a w'->∀ K:aR->Y->Prop,(∀ v w'',V i v w''->F (fun j=>j=i\/D j) w''->(∀ j u,j<N->D j->¬ D (last j)->last j≠i->j≠i->V j u w'->V j u w'')->K (a.put (dst i) v) w'')->wpOp P l.toArray Q i K a w')
  (hend:∀ a w',a.defers=base.defers->a.tmps.size=base.tmps.size->(∀ j,(∀ i,i<N->dst i≠aj j)->a.tmps[j]?=base.tmps[j]?)->(∃ vs:Nat->aM,∀ i,i<N->(∀ d,dst i=aj d->a.tmps[d]?=aj (vs i))/\(N<=last i->V i (vs i) w'))->(∃ D:Nat->Prop,(∀ i,i<N->D i)/\F D w')->Q .normal a w'):(Code.region id l.toArray aC).wp P Q base w:=by
 refine sG (fun L a x=>PhD l N dst last V F base L a x) hm hf ?_ ?_ ?_
 ·exact⟨fun i o h=>absurd h (gP _ _),rfl,rfl,fun _ _=>rfl,by rw [show done (Array.replicate l.length aL)=fun _=>False from funext fun i=>propext ⟨fun h=>gP _ _ h,False.elim⟩]; exact h0,fun i _=>gP _ _,fun _=>.bool aC,fun i _ h=>absurd h (gP _ _)⟩
 ·intro L a x i o hsz I ho hnd pF;have hi:i<l.length:=(List.getElem?_eq_some_iff.1 ho).1;have Cw:i<L.size:=by omega
  have hiM:i<N:=by omega
  obtain⟨vs,q1⟩:=I.val;have hon:∀ e∈o.after,ak .any e=aC->e.on<N:=fun e he hb=>by
   have h7:=List.all_eq_true.1 hf i (List.mem_range.2 (by simpa using hi));have ho':(l.toArray)[i]?=aj o:=by simpa using ho
   rw [ho'] at h7;have h8:=Array.all_eq_true'.1 h7 e he;rw [hb] at h8;have:e.on<i:=by simpa using h8
   omega
  have lv:∀ e∈o.after,ak .any e=aC->(last e.on=i\/N<=last e.on)->V e.on (vs e.on) x:=fun e he hbd hl=>by
   refine (q1 e.on (hon e he hbd) (pF e he hbd)).2 ?_;rcases hl with hl|hl
   ·rw [hl]; exact hnd
   ·exact I.no _ hl
  have seen:aal i N dst last V base o a x:=⟨fun j u hj hu=>dK (by rw [I.kp j hj]; exact hu),fun e he hbd hl d hd=>by
   rw [dK ((q1 e.on (hon e he hbd) (pF e he hbd)).1 d hd)];exact lv e he hbd hl,fun e he hbd hl=>⟨_,lv e he hbd hl⟩⟩
  refine hop i o hiM ho a x (done L) hnd I.cl pF I.fr seen _ fun v w'' hvw hfw hpr=>?_;refine⟨fun k q hk hq e he hb=>?_,by rw [put_defers]; exact I.df,by rw [T9]; exact I.sz,fun j hj=>?_,by rw [show done (L.setIfInBounds i aC)=fun j=>j=i\/done L j from funext fun j=>propext (iF Cw j)]; exact hfw,fun k hk hd=>?_,fun k=>if k=i then v else vs k,fun k Yn hk=>?_⟩
  ·rw [iF Cw] at hk ⊢;rcases hk with rfl|hk
   ·rw [hq] at ho;cases ho;exact Or.inr (pF e he hb)
   ·exact Or.inr (I.cl k q hk hq e he hb)
  ·rw [Dw _ _ _ _ (hj i hiM)];exact I.kp j hj
  ·rcases (iF Cw k).1 hd with h9|h9
   ·omega
   ·exact I.no k hk h9
  ·by_cases e:k=i
   ·subst e;simp only [if_true];refine⟨fun d hd=>?_,fun _=>hvw⟩;have h9:d<a.tmps.size:=by rw [I.sz]; exact hs k d Yn hd
    rw [hd];simp [Act.put,h9]
   ·simp only [if_neg e];rcases (iF Cw k).1 hk with h9|h9
    ·exact absurd h9 e
    ·obtain⟨p1,p2⟩:=q1 k Yn h9;refine⟨fun d hd=>?_,fun hn=>?_⟩
     ·rw [Dw _ _ _ _ (fun h=>e (hinj k i d Yn hiM hd h))];exact p1 d hd
     ·have n1:last k≠i:=fun e3=>hn ((iF Cw _).2 (Or.inl e3));have n2:¬ done L (last k):=fun e3=>hn ((iF Cw _).2 (Or.inr e3));exact hpr k _ Yn h9 n2 n1 e (p2 n2)
 ·intro L a x I hd;obtain⟨vs,q1⟩:=I.val;exact hend a x I.df I.sz I.kp ⟨vs,fun k hk=>⟨(q1 k hk (hd k (by omega))).1,fun hl=>(q1 k hk (hd k (by omega))).2 (I.no _ hl)⟩⟩ ⟨done L,fun i hi=>hd i (by omega),I.fr⟩
end Rg
namespace Pr
open Go.RowKit Go.Sort Pu Rw Va
theorem Qe (s:ByteArray) (w:Y) :
  aD X 145 #[Z s] w fun e w'=>e=O (vl aC 0 s)/\Below w.heap.size w w':=by
 go_enter Tryz.func145,Tryz.ntmps145;go_wp2;exact aJ (v:=vl aC 0 s) (by simp [results,Tryz.results145,go_sem]) rfl ⟨rfl,(Below.refl _ _).alloc (aH _) _⟩
theorem Ij (s:ByteArray) (w:Y) (d:Nat) (os:Array Obj) :
  aD X 145 #[Z s] (grow (aP w d) os) fun e w''=>e=O (vl aC 0 s)/\∃ p:Regrown,w''=grow (aP w p.d) p.os :=
 Calls.regrown_of (Qe _ _)
theorem Dx (c:Cn) (s:ByteArray) (r:Bool) (hr:eG c.2 (aC,0,s)=r) (w:Y) (d:Nat) (os:Array Obj) :
  aD X 45 #[cv (r5 c),vl aC 0 s] (grow (aP w d) os) fun e w''=>e=O (ay r)/\∃ p:Regrown,w''=grow (aP w p.d) p.os:=by
 subst hr;exact Calls.regrown_of (Dv _ _ _ _ _)
def iY:Kd->Kd->Bool
 | .pr s,.pr t=>pfx t s
 | .tx s,k=>eG k (aC,0,s)
 | _,_=>aL
theorem Ua (w:Y) (c d:C5):dN ((w.alloc (ah (cells5 c).toArray 106)).alloc (ah (cells5 d).toArray 106)) w.heap.size (cells5 c).toArray 106/\dN ((w.alloc (ah (cells5 c).toArray 106)).alloc (ah (cells5 d).toArray 106)) (w.heap.size+1) (cells5 d).toArray 106/\Below w.heap.size w ((w.alloc (ah (cells5 c).toArray 106)).alloc (ah (cells5 d).toArray 106)):=by
 refine⟨(dO w _ _).more _,?_,((Below.refl w.heap.size w).alloc (aH _) _).alloc (by simp) _⟩;have h:=dO (w.alloc (ah (cells5 c).toArray 106)) (cells5 d).toArray 106
 rwa [show (w.alloc (ah (cells5 c).toArray 106)).heap.size=w.heap.size+1 by simp] at h
theorem Qf (na nb:ByteArray) (s:ByteArray) (kb:Kd) (w:Y):aD X 144 #[cv (r5 (na,.tx s)),cv (r5 (nb,kb))] w fun e w'=>e=O (ay (iY (.tx s) kb))/\Below w.heap.size w w':=by
 obtain⟨ba,bb,hb⟩:=Ua w (r5 (na,.tx s)) (r5 (nb,kb));have BA:=J ba;have BB:=J bb;have B:=J hb;have H:=Dx (nb,kb) s _ rfl;have C:=Ij s;have R:=J (show iY (.tx s) kb=eG kb (aC,0,s) from rfl);generalize iY (.tx s) kb=r at *;simp only [r5] at H ⊢;clear ba bb hb;go_enter aG,aF;go_wp2;have HH:=J H;have CC:=J C;clear H C;change Code.wp _ _ _ _ ((w.alloc (ah (cells5 (r5 (na,.tx s))).toArray 106)).alloc (ah (cells5 (r5 (nb,kb))).toArray 106));generalize (w.alloc (ah (cells5 (r5 (na,.tx s))).toArray 106)).alloc (ah (cells5 (r5 (nb,kb))).toArray 106)=W at *;have a4:=U (show W.cell? ⟨w.heap.size,4,aI⟩=aj (Z s) from BA.out.cell 4);have b0:=U (show W.cell? ⟨w.heap.size+1,0,aI⟩=aj (Z nb) from BB.out.cell 0);have b1:=U (show W.cell? ⟨w.heap.size+1,1,aI⟩=aj (aO .i64 (kN kb)) from BB.out.cell 1);have b2:=U (show W.cell? ⟨w.heap.size+1,2,aI⟩=aj (aO .i64 (jN kb)) from BB.out.cell 2);have b3:=U (show W.cell? ⟨w.heap.size+1,3,aI⟩=aj (aO .i64 (jO kb)) from BB.out.cell 3);have b4:=U (show W.cell? ⟨w.heap.size+1,4,aI⟩=aj (Z (kT kb)) from BB.out.cell 4);refine wp_region_quiet_below (by kernel_rfl) (by kernel_rfl) ?_
 repeat (go_big_quiet_step (first | (with_reducible exact CC.out _ _ _) | (with_reducible exact HH.out _ _ _)))
 refine wpQuiet_nil ?_;intro _ hw';obtain⟨⟨dq,osq⟩,hw''⟩:=hw';subst hw'';have BZ:=J (B.out.trans ((aN W dq osq).mono B.out.size));clear a4 b0 b1 b2 b3 b4;go_wp2;go_ret;exact⟨fu R.out.symm,BZ.out⟩
theorem Qg (na nb:ByteArray) (s:ByteArray) (t:ByteArray) (w:Y):aD X 144 #[cv (r5 (na,.pr s)),cv (r5 (nb,.pr t))] w fun e w'=>e=O (ay (iY (.pr s) (.pr t)))/\Below w.heap.size w w':=by
 obtain⟨ba,bb,hb⟩:=Ua w (r5 (na,.pr s)) (r5 (nb,.pr t));have BA:=J ba;have BB:=J bb;have B:=J hb;have H:=Dx (nb,.pr t) s _ rfl;have C:=Ij s;have R:=J (show iY (.pr s) (.pr t)=eG (.pr t) (aC,0,s) by simp only [iY,eG,Bool.true_and]);generalize iY (.pr s) (.pr t)=r at *;simp only [r5] at H ⊢;clear ba bb hb;go_enter aG,aF;go_wp2;have HH:=J H;have CC:=J C;clear H C;change Code.wp _ _ _ _ ((w.alloc (ah (cells5 (r5 (na,.pr s))).toArray 106)).alloc (ah (cells5 (r5 (nb,.pr t))).toArray 106));generalize (w.alloc (ah (cells5 (r5 (na,.pr s))).toArray 106)).alloc (ah (cells5 (r5 (nb,.pr t))).toArray 106)=W at *;have a4:=U (show W.cell? ⟨w.heap.size,4,aI⟩=aj (Z s) from BA.out.cell 4);have b0:=U (show W.cell? ⟨w.heap.size+1,0,aI⟩=aj (Z nb) from BB.out.cell 0);have b1:=U (show W.cell? ⟨w.heap.size+1,1,aI⟩=aj (aO .i64 (kN (.pr t))) from BB.out.cell 1);have b2:=U (show W.cell? ⟨w.heap.size+1,2,aI⟩=aj (aO .i64 (jN (.pr t))) from BB.out.cell 2);have b3:=U (show W.cell? ⟨w.heap.size+1,3,aI⟩=aj (aO .i64 (jO (.pr t))) from BB.out.cell 3);have b4:=U (show W.cell? ⟨w.heap.size+1,4,aI⟩=aj (Z (kT (.pr t))) from BB.out.cell 4);refine wp_region_quiet_below (by kernel_rfl) (by kernel_rfl) ?_
 repeat (go_big_quiet_step (first | (with_reducible exact CC.out _ _ _) | (with_reducible exact HH.out _ _ _)))
 refine wpQuiet_nil ?_;intro _ hw';obtain⟨⟨dq,osq⟩,hw''⟩:=hw';subst hw'';have BZ:=J (B.out.trans ((aN W dq osq).mono B.out.size));clear a4 b0 b1 b2 b3 b4;go_wp2;go_ret;exact⟨fu R.out.symm,BZ.out⟩
theorem yg (na nb:ByteArray) (ka kb:Kd) (w:Y) (h:(∃ lo hi,ka=.rg lo hi)\/(∃ s,ka=.pr s)/\¬ ∃ t,kb=.pr t):aD X 144 #[cv (r5 (na,ka)),cv (r5 (nb,kb))] w fun e w'=>e=O (ay (iY ka kb))/\Below w.heap.size w w':=by
 have B:=J (Ua w (r5 (na,ka)) (r5 (nb,kb))).2.2;rcases h with⟨lo,hi,rfl⟩|⟨⟨s,rfl⟩,h⟩
 ·have R:=J (show iY (.rg lo hi) kb=aL from rfl);generalize iY (.rg lo hi) kb=r at *;simp only [r5];go_enter aG,aF;go_wp2;go_ret;exact⟨fu R.out.symm,B.out⟩
 ·have R:=J (show iY (.pr s) kb=aL by
   cases kb with
   | pr t=>exact absurd ⟨t,rfl⟩ h
   | _=>rfl)
  have e:((kN kb) != (3:Int))=aC:=by
   cases kb with
   | pr t=>exact absurd ⟨t,rfl⟩ h
   | _=>rfl
  generalize iY (.pr s) kb=r at *;clear h;simp only [r5];go_enter aG,aF;go_wp2;go_ret;exact⟨fu R.out.symm,B.out⟩
theorem Af (a b:Cn) (w:Y):aD X 144 #[cv (r5 a),cv (r5 b)] w fun e w'=>e=O (ay (iY a.2 b.2))/\Below w.heap.size w w':=by
 obtain⟨na,ka⟩:=a;obtain⟨nb,kb⟩:=b;cases ka with
 | rg lo hi=>exact yg na nb _ kb w (Or.inl ⟨lo,hi,rfl⟩)
 | tx s=>exact Qf na nb s kb w
 | pr s =>
  cases kb with
  | pr t=>exact Qg na nb s t w
  | rg lo hi=>exact yg na nb _ _ w (Or.inr ⟨⟨s,rfl⟩,by rintro⟨t,h⟩; cases h⟩)
  | tx t=>exact yg na nb _ _ w (Or.inr ⟨⟨s,rfl⟩,by rintro⟨t',h⟩; cases h⟩)
def Ng (n:ByteArray) (r:Option Kd) (w:Y) (e:Ending) (w':Y):Prop:=(∃ x,e=O (.tuple #[cv x,ay r.isSome])/\∀ k,r=aj k->x=r5 (n,k))/\Below w.heap.size w w'
theorem b3 (w:Y) (o p q:Obj):Below w.heap.size w (((w.alloc o).alloc p).alloc q):=(((Below.refl w.heap.size w).alloc (aH _) _).alloc (by simp) _).alloc (by simp; omega) _
theorem Ik (na nb:ByteArray) (a b c d:Int) (w:Y):aD X 143 #[cv (na,1,a,b,⟨#[]⟩),cv (nb,1,c,d,⟨#[]⟩)] w (Ng na (fE (.rg a b) (.rg c d)) w):=by
 have R:=J (show fE (.rg a b) (.rg c d)=if max a c<=min b d then aj (.rg (max a c) (min b d)) else aI from rfl);generalize fE (.rg a b) (.rg c d)=r at *;go_enter Tryz.func143,Tryz.ntmps143;go_wp2_with fail
 go_region
 have e1:(if a<c then c else a)=max a c:=by split <;> omega
 have e2:(if d<b then d else b)=min b d:=by split <;> omega
 try rw [e1]
 try rw [e2]
 clear e1 e2;generalize max a c=M at R ⊢;generalize min b d=N at R ⊢;by_cases h:M<=N
 ·have h1:¬ N<M:=by omega
  have R2:=J (show r=aj (.rg M N) by rw [R.out,if_pos h]);clear h;go_wp2;refine aJ (v:=.tuple #[cv (na,1,M,N,⟨#[]⟩),ay aC]) (by simp [results,aK,go_sem]) rfl ?_;refine⟨⟨(na,1,M,N,⟨#[]⟩),by rw [R2.out]; rfl,fun k hk=>?_⟩,(b3 w _ _ _).drew⟩;rw [R2.out] at hk;rw [<- Option.some.inj hk]
  rfl
 ·have h1:N<M:=by omega
  have R2:=J (show r=aI by rw [R.out,if_neg h]);clear h;go_wp2;refine aJ (v:=.tuple #[cv (⟨#[]⟩,0,0,0,⟨#[]⟩),ay aL]) (by simp [results,aK,go_sem]) rfl ?_;refine⟨⟨(⟨#[]⟩,0,0,0,⟨#[]⟩),by rw [R2.out]; rfl,fun k hk=>?_⟩,(b3 w _ _ _).drew⟩;rw [R2.out] at hk;cases hk
theorem zC (a b:Kd):fE a b=(match a,b with
 | .rg p q,.rg r t=>if max p r<=min q t then aj (.rg (max p r) (min q t)) else aI
 | a,b=>if iY a b then aj a else if iY b a then aj b else aI):=by
 cases a <;> cases b <;> simp [fE,iY,eG]
 ·rename_i s t
  by_cases h:s.data=t.data
  ·rw [if_pos h,if_pos h]
  ·rw [if_neg h,if_neg h,if_neg (fun e=>h e.symm)]
 ·rename_i s t
  by_cases h1:pfx s t=aC <;> by_cases h2:pfx t s=aC <;> simp [h1,h2];have e1:=(fU _ _).1 h1;have e2:=(fU _ _).1 h2;rw [tN (e2.eq_of_length_le e1.length_le)]
end Pr
end Go.Proofs.YtkcfgbddlpomgaaGreat
