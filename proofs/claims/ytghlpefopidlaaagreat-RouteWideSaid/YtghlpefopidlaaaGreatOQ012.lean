/-
  The region of Learn . Conditions as told.
-/
import Derived.Test.YtghlpefopidlaaaGreatOQ007
import Derived.Test.YtghlpefopidlaaaGreatOQ010
import Derived.Test.YtghlpefopidlaaaGreatOQ011
import Derived.Deep.RegionWith
set_option maxRecDepth 100000
set_option maxHeartbeats 64000000
open _root_.Go renaming World->ah,Value->aB,Calls->aG,Act->aJ
open Go.IntKind renaming i64->aA
open Go.Lib renaming hid->J
open Go.Obj renaming cells->U
open Go.Proofs.Tryz renaming results133->aj,prog->ak,ntmps133->aD,func133->aF
open Go.Region renaming binds->Y
open Go.Value renaming int->ay,bool->aH,slice->aI
open _root_.Option renaming some->Z,none->aC
open Option.some renaming inj->au
namespace Go.Proofs.YtghlpefopidlaaaGreat
namespace Bk
open Go.RowKit Rw YtghlpefopidlaaaGreat.Nm Pr
end Bk
namespace Av
open Go.RowKit Rw YtghlpefopidlaaaGreat.Nm Pr Bk
theorem Df (l:List dO) (x:dO) (h:∀ (j:Nat) (y:dO),l[j]?=Z y->y≠x):fC l x=-1:=by
 induction l with
 | nil=>rfl
 | cons a l ih =>
  rw [fC,if_neg (h 0 a rfl),ih fun j y hj=>h (j+1) y (by simpa using hj),if_pos rfl]
theorem JR (l:List dO) (k:Nat) (x:dO) (h:l[k]?=Z x) (hall:∀ (j:Nat) (z:dO),j<k->l[j]?=Z z->z≠x):fC l x=k:=by
 induction l generalizing k with
 | nil=>simp at h
 | cons a l ih =>
  cases k with
  | zero =>
   obtain rfl:a=x:=by simpa using h
   rw [fC,if_pos rfl]
   rfl
  | succ k =>
   have h2:=ih k (by simpa using h) fun j z hj hz=>hall (j+1) z (by omega) (by simpa using hz);rw [fC,if_neg (hall 0 a (by omega) rfl),h2,if_neg (by omega)];omega
theorem Ak (l:List dO) (x:dO):decide ((0:Int)<=fC l x)=decide (x∈l):=by
 induction l with
 | nil=>simp [fC]
 | cons a l ih =>
  have hb:=qz l x;rw [fC];by_cases h:a=x
  ·rw [if_pos h]; simp [h]
  ·rw [if_neg h];have h':¬ x=a:=fun e=>h e.symm;simp only [List.mem_cons,h',false_or];rw [<- ih];by_cases h2:fC l x=-1
   ·rw [if_pos h2,h2]
   ·rw [if_neg h2];have h3:0<=fC l x:=by omega
    have h4:0<=fC l x+1:=by omega
    simp [h3,h4]
theorem GY (sv:Sl) (l:List dO) (x:dO) (w:ah) (hs:yZ w (dN sv) l) :
  aG ak 139 #[dN sv,pK x] w fun e w'=>e=.returned (ay aA (fC l x))/\Below w.heap.size w w':=by
 obtain⟨c,d⟩:=x;obtain⟨so,sn,sc⟩:=sv;obtain⟨ao,ac,hv⟩:=hs.len;have hv:aI so sn sc=aI ao l.length ac:=hv;obtain⟨rfl,rfl,rfl⟩:so=ao/\sn=l.length/\sc=ac:=by simpa using hv
 have h0:=iM w (U #[ay aA c,ay aA d] 23);have h2:=dK w #[ay aA c,ay aA d] 23;have B:=J h0;have HS:=J (hs.on h0);have X3:=J h2;have lm:=hs.most;unfold maxLen at lm;obtain⟨n,hn⟩:∃ n,n=l.length:=⟨_,rfl⟩;rw [<- hn] at HS lm ⊢;have HN:=J hn.symm;clear h0 h2 hs hv hn;go_enter Tryz.func139,Tryz.ntmps139;go_upto_region 1 with fail;generalize w.alloc (U #[ay aA c,ay aA d] 23)=W at *;go_wp2
 go_loopw [8] (fun i wr=>∃ k:Nat,k<=n/\i=ay aA k/\Below W.heap.size W wr/\∀ (j:Nat) (y:dO),j<k->l[j]?=Z y->y≠(c,d)) (fun i _=>n-(intOf i).toNat)
 case atStart=>exact⟨0,Nat.zero_le _,rfl,Below.refl _ _,fun j y h=>by omega⟩
 case round =>
  obtain⟨k,hk,rfl,hbe,hall⟩:=hrel;have BE:=J hbe;have AL:=J hall;clear hbe hall;by_cases hlt:k<n
  ·obtain⟨y,hy⟩:∃ y,l[k]?=Z y:=⟨_,List.getElem?_eq_getElem (by rw [HN.out]; exact hlt)⟩;obtain⟨p,ix,px⟩:=Zl HS.out rfl HN.out hy;have DD:Below W.heap.size W wr.drew:=BE.out.drew;obtain⟨p0,p1⟩:=px wr BE.out;obtain⟨y1,y2⟩:=y;simp only at p0 p1;obtain⟨x0,x1⟩:=(X3.out.on BE.out).cs2;have hw3:IntKind.i64.wrap ((k:Int)+1)=(k:Int)+1:=IntWalk.i64_in _ (by omega);obtain⟨r,hr⟩:∃ r,(c == y1 && d == y2)=r:=⟨_,rfl⟩;have he:=wI c d y1 y2 r hr;have DB:=J DD;have HY:=J hy;have HR:=J hr;clear px hy hr DD;cases r
   ·go_wp2_with fail
    go_quiet (fail)
    go_wp2
    go_roundw
    case rel=>exact⟨k+1,by omega,by go_num,⟨BE.out.os,BE.out.tape,BE.out.output,BE.out.size,BE.out.block⟩,fun j y' hj h1=>by
     rcases Nat.lt_or_ge j k with h3|h3
     ·exact AL.out j y' h3 h1
     ·obtain rfl:j=k:=by omega
      have e1:=HY.out;rw [h1] at e1;rw [au e1];intro e;obtain⟨rfl,rfl⟩:y1=c/\y2=d:=by simpa using e
      have:=HR.out;simp at this⟩
    case measure=>simp [intOf]; omega
   ·go_wp2_with fail
    go_quiet (fail)
    go_wp2;go_ret;have h8:=HR.out;obtain⟨rfl,rfl⟩:c=y1/\d=y2:=by simpa using h8
    exact⟨by rw [JR l k (c,d) HY.out AL.out]; rfl,B.out.trans (Below.mono ⟨BE.out.os,BE.out.tape,BE.out.output,BE.out.size,BE.out.block⟩ B.out.size)⟩
  ·obtain rfl:k=n:=by omega
   go_wp2;go_ret;have hd:fC l (c,d)=-1:=Df l (c,d) fun j y hj=>AL.out j y (by rw [<- HN.out]; exact (List.getElem?_eq_some_iff.1 hj).1) hj;exact⟨by rw [hd]; rfl,B.out.trans (BE.out.mono B.out.size)⟩
theorem zf (sv:Sl) (l:List dO) (x:dO) (w:ah) (hs:yZ w (dN sv) l) :
  aG ak 98 #[dN sv,pK x] w fun e w'=>e=.returned (aH (decide (x∈l)))/\Below w.heap.size w w':=by
 have h0:=iM w (U #[ay aA x.1,ay aA x.2] 23);have h2:=dK w #[ay aA x.1,ay aA x.2] 23;have C:=GY sv l x _ (hs.on h0);have R:=J (Ak l x);obtain⟨c,d⟩:=x;obtain⟨so,sn,sc⟩:=sv;have B:=J h0;obtain⟨x0,x1⟩:=h2.cs2;generalize fC l (c,d)=r at *;generalize decide ((c,d)∈l)=s at *;clear h0 h2 hs;go_enter Tryz.func98,Tryz.ntmps98;go_wp2_with fail;refine C.mono ?_;rintro e w1 ⟨rfl,hb⟩;go_wp2;go_ret;exact⟨by have h:=R.out; subst h; rfl,B.out.trans (hb.mono B.out.size)⟩
theorem G9 (me:Int) (nv av ev ov:aB) (sv:Sl) (l:List dO) (x:dO) (w:ah) (hs:yZ w (dN sv) l) :
  aG ak 32 #[.agg #[ay aA me,nv,av,dN sv,ev,ov],pK x] w fun e w'=>e=.returned (aH (decide (x∈l)))/\Below w.heap.size w w':=by
 obtain⟨h0,h1,h2⟩:=iO w #[ay aA me,nv,av,dN sv,ev,ov] #[ay aA x.1,ay aA x.2] 30 23;have C:=zf sv l x _ (hs.on h0);obtain⟨c,d⟩:=x;obtain⟨so,sn,sc⟩:=sv;have B:=J h0;have b3:=h1.cell 3;obtain⟨x0,x1⟩:=h2.cs2;simp only [List.getElem?_toArray,List.getElem?_cons_zero,List.getElem?_cons_succ] at b3;generalize decide ((c,d)∈l)=s at *;clear h0 h1 h2 hs;go_enter Tryz.func32,Tryz.ntmps32;go_wp2_with fail;refine C.mono ?_;rintro e w1 ⟨rfl,hb⟩;go_wp2;go_ret;exact⟨rfl,B.out.trans (hb.mono B.out.size)⟩
end Av
namespace Pr
open Go.RowKit Go.Sort Pu Rw Va
theorem Ur (w:ah) (c d z:C5):dx (((w.alloc (U (cells5 c).toArray 91)).alloc (U (cells5 d).toArray 91)).alloc (U (cells5 z).toArray 91)) w.heap.size (cells5 c).toArray 91/\dx (((w.alloc (U (cells5 c).toArray 91)).alloc (U (cells5 d).toArray 91)).alloc (U (cells5 z).toArray 91)) (w.heap.size+1) (cells5 d).toArray 91/\dx (((w.alloc (U (cells5 c).toArray 91)).alloc (U (cells5 d).toArray 91)).alloc (U (cells5 z).toArray 91)) (w.heap.size+1+1) (cells5 z).toArray 91/\Below w.heap.size w (((w.alloc (U (cells5 c).toArray 91)).alloc (U (cells5 d).toArray 91)).alloc (U (cells5 z).toArray 91)):=by
 obtain⟨h1,h2,h3⟩:=JQ w c d;refine⟨h1.more _,h2.more _,?_,h3.alloc h3.size _⟩;have h:=dK ((w.alloc (U (cells5 c).toArray 91)).alloc (U (cells5 d).toArray 91)) (cells5 z).toArray 91
 rwa [show ((w.alloc (U (cells5 c).toArray 91)).alloc (U (cells5 d).toArray 91)).heap.size=w.heap.size+1+1 by simp] at h
theorem fU {W:ah} {b:Nat} {c:C5} (h:dx W b (cells5 c).toArray 91):W.cell? ⟨b,0,aC⟩=Z (.string c.1)/\W.cell? ⟨b,1,aC⟩=Z (ay aA c.2.1)/\W.cell? ⟨b,2,aC⟩=Z (ay aA c.2.2.1)/\W.cell? ⟨b,3,aC⟩=Z (ay aA c.2.2.2.1)/\W.cell? ⟨b,4,aC⟩=Z (.string c.2.2.2.2):=⟨h.cell 0,h.cell 1,h.cell 2,h.cell 3,h.cell 4⟩
theorem iW {B:Nat} {W w:ah} (h:Below B W w) (g:Nat) (hB:B<=g) (v0 v1 v2 v3 v4:aB):Below B W (((((w.setCell ⟨g,0,aC⟩ v0).setCell ⟨g,1,aC⟩ v1).setCell ⟨g,2,aC⟩ v2).setCell ⟨g,3,aC⟩ v3).setCell ⟨g,4,aC⟩ v4) :=
 ((((h.setCell hB _).setCell hB _).setCell hB _).setCell hB _).setCell hB _
theorem Nt (na nb:ByteArray) (a b c d:Int) (w:ah):aG ak 133 #[cv (r5 (na,.rg a b)),cv (r5 (nb,.rg c d))] w (Fa na (fE (.rg a b) (.rg c d)) w):=by
 obtain⟨ba,bb,bz,hb⟩:=Ur w (r5 (na,.rg a b)) (r5 (nb,.rg c d)) (⟨#[]⟩,0,0,0,⟨#[]⟩);have B:=J hb;have BA:=J ba;have BB:=J bb;have BZ:=J bz;have O:=J (Aj na nb a b c d (((w.alloc (U (cells5 (r5 (na,.rg a b))).toArray 91)).alloc (U (cells5 (r5 (nb,.rg c d))).toArray 91)).alloc (U (cells5 (⟨#[]⟩,0,0,0,⟨#[]⟩)).toArray 91)));generalize fE (.rg a b) (.rg c d)=r at *;clear ba bb bz hb;simp only [r5,kN,lN,lQ,kT];go_enter aF,aD;go_wp2_with fail;refine O.out.mono ?_;rintro e W2 ⟨⟨x,rfl,hx⟩,hb2⟩;have B2:=J (B.out.trans (hb2.mono B.out.size));have Z2:=J (BZ.out.on hb2);have X:=J hx;obtain⟨z0,z1,z2,z3,z4⟩:=fU Z2.out;have fz:=fun k=>Z2.out.fr k;simp only at z0 z1 z2 z3 z4;clear hx hb2 O B BA BB BZ;go_wp2;refine bodyPost_ret (v:=.tuple #[cv x,aH r.isSome]) (by simp [results,aj,go_sem,z0,z1,z2,z3,z4]) rfl ?_;exact⟨⟨x,rfl,X.out⟩,iW B2.out (w.heap.size+1+1) (by omega) _ _ _ _ _⟩
theorem ny (na nb:ByteArray) (ka kb:Kd) (w:ah) (hno:(kN ka=1/\kN kb≠1)\/kN ka≠1) (hn:na=nb) (r:Option Kd) (hr:r=if gH ka kb then Z ka else if gH kb ka then Z kb else aC):aG ak 133 #[cv (r5 (na,ka)),cv (r5 (nb,kb))] w (Fa na r w):=by
 obtain⟨ba,bb,bz,hb⟩:=Ur w (r5 (na,ka)) (r5 (nb,kb)) (⟨#[]⟩,0,0,0,⟨#[]⟩);have B:=J hb;have BA:=J ba;have BB:=J bb;have BZ:=J bz;have I1:=J (uE (na,ka) (nb,kb) (((w.alloc (U (cells5 (r5 (na,ka))).toArray 91)).alloc (U (cells5 (r5 (nb,kb))).toArray 91)).alloc (U (cells5 (⟨#[]⟩,0,0,0,⟨#[]⟩)).toArray 91)));have I2:=J (fun W=>uE (nb,kb) (na,ka) W);obtain⟨i1,e1⟩:∃ i,gH ka kb=i:=⟨_,rfl⟩;obtain⟨i2,e2⟩:∃ i,gH kb ka=i:=⟨_,rfl⟩;simp only [e1] at I1;simp only [e2] at I2;rw [e1,e2] at hr;have HR:=J hr;have NE:=J hn;obtain⟨j1,g1⟩:∃ j,(kN ka == (1:Int))=j:=⟨_,rfl⟩;have g2:j1=true->(kN kb == (1:Int))=false:=fun e=>by
  subst e;rcases hno with⟨_,h⟩|h
  ·exact beq_eq_false_iff_ne.2 h
  ·exact absurd (beq_iff_eq.1 g1) h
 have G2:=J g2;clear ba bb bz hb e1 e2 hn hno g2 hr;simp only [r5] at I1 I2 ⊢;cases j1
 all_goals try have g3:=G2.out rfl
 all_goals
  clear G2;go_enter aF,aD;go_wp2_with fail;refine I1.out.mono ?_;rintro e W2 ⟨rfl,hb2⟩;have B2:=J (B.out.trans (hb2.mono B.out.size));have Z2:=J (BZ.out.on hb2);have A2:=J (BA.out.on hb2);have D2:=J (BB.out.on hb2);obtain⟨a0,a1,a2,a3,a4⟩:=fU A2.out;obtain⟨d0,d1,d2,d3,d4⟩:=fU D2.out;obtain⟨z0,z1,z2,z3,z4⟩:=fU Z2.out;have fz:=fun k=>Z2.out.fr k;simp only [r5] at a0 a1 a2 a3 a4 d0 d1 d2 d3 d4;simp only at z0 z1 z2 z3 z4;clear hb2 B BA BB BZ I1;rcases Bool.eq_false_or_eq_true i1 with rfl|rfl
  ·go_wp2;refine bodyPost_ret (v:=.tuple #[cv (r5 (na,ka)),aH true]) (by simp [results,aj,go_sem,z0,z1,z2,z3,z4,r5]) rfl ?_;exact⟨⟨r5 (na,ka),by rw [HR.out]; rfl,fun k hk=>by rw [HR.out] at hk; rw [<- au hk]⟩,iW B2.out (w.heap.size+1+1) (by omega) _ _ _ _ _⟩
  ·clear a0 a1 a2 a3 a4 d0 d1 d2 d3 d4;obtain⟨a0,a1,a2,a3,a4⟩:=fU A2.out;obtain⟨d0,d1,d2,d3,d4⟩:=fU D2.out;simp only [r5] at a0 a1 a2 a3 a4 d0 d1 d2 d3 d4;go_wp2_with fail;refine (I2.out _).mono ?_;rintro e W3 ⟨rfl,hb3⟩;have B3:=J (B2.out.trans (hb3.mono B2.out.size));have Z3:=J (Z2.out.on hb3);have D3:=J (D2.out.on hb3);clear a0 a1 a2 a3 a4 d0 d1 d2 d3 d4 z0 z1 z2 z3 z4 fz;obtain⟨d0,d1,d2,d3,d4⟩:=fU D3.out;obtain⟨z0,z1,z2,z3,z4⟩:=fU Z3.out;have fz:=fun k=>Z3.out.fr k;simp only [r5] at d0 d1 d2 d3 d4;simp only at z0 z1 z2 z3 z4;clear hb3 B2 I2 A2 D2 Z2;rcases Bool.eq_false_or_eq_true i2 with rfl|rfl
   ·go_wp2;refine bodyPost_ret (v:=.tuple #[cv (r5 (nb,kb)),aH true]) (by simp [results,aj,go_sem,z0,z1,z2,z3,z4,r5]) rfl ?_;exact⟨⟨r5 (nb,kb),by rw [HR.out]; rfl,fun k hk=>by rw [HR.out] at hk; rw [NE.out,<- au hk]⟩,iW B3.out (w.heap.size+1+1) (by omega) _ _ _ _ _⟩
   ·go_wp2;refine bodyPost_ret (v:=.tuple #[cv ((⟨#[]⟩,0,0,0,⟨#[]⟩)),aH false]) (by simp [results,aj,go_sem,z0,z1,z2,z3,z4]) rfl ?_;exact⟨⟨(⟨#[]⟩,0,0,0,⟨#[]⟩),by rw [HR.out]; rfl,fun k hk=>by rw [HR.out] at hk; cases hk⟩,iW B3.out (w.heap.size+1+1) (by omega) _ _ _ _ _⟩
theorem Al (a b:Cn) (w:ah) (hn:a.1=b.1):aG ak 133 #[cv (r5 a),cv (r5 b)] w (Fa a.1 (fE a.2 b.2) w):=by
 obtain⟨na,ka⟩:=a;obtain⟨nb,kb⟩:=b;cases ka with
 | rg p q =>
  cases kb with
  | rg r t=>exact Nt na nb p q r t w
  | tx t=>exact ny na nb _ _ w (Or.inl ⟨rfl,by simp [kN]⟩) hn _ (tL _ _)
  | pr t=>exact ny na nb _ _ w (Or.inl ⟨rfl,by simp [kN]⟩) hn _ (tL _ _)
 | tx s=>exact ny na nb _ _ w (Or.inr (by simp [kN])) hn _ (tL _ _)
 | pr s=>exact ny na nb _ _ w (Or.inr (by simp [kN])) hn _ (tL _ _)
end Pr
namespace Rg
open Go.RowKit
structure Pw (i N:Nat) (dst:Nat->Option Nat) (last:Nat->Nat) (V:Nat->aB->ah->Prop) (base:aJ) (o:Oper) (a:aJ) (w:ah):Prop where
 kp:∀ j u,(∀ k,k<N->dst k≠Z j)->base.tmps[j]?=Z u->a.eval (.tmp j)=u
 at_:∀ e∈o.after,Y .any e=true->(last e.on=i\/N<=last e.on)->∀ d,dst e.on=Z d->V e.on (a.eval (.tmp d)) w
 st:∀ e∈o.after,Y .any e=true->(last e.on=i\/N<=last e.on)->∃ v,V e.on v w
theorem xB (a:aJ) (d:Option Nat) (v:aB) (j:Nat) (hj:d≠Z j):(a.put d v).tmps[j]?=a.tmps[j]?:=by
 cases d with
 | none=>rfl
 | some d=>exact get_put _ _ _ _ (fun e=>hj (by rw [e]))
theorem JU (a:aJ) (d:Option Nat) (v:aB):(a.put d v).tmps.size=a.tmps.size:=by
 cases d with
 | none=>rfl
 | some d=>exact size_put _ _ _
theorem put_defers (a:aJ) (d:Option Nat) (v:aB):(a.put d v).defers=a.defers:=by
 cases d <;> rfl
structure PhD (l:List Oper) (N:Nat) (dst:Nat->Option Nat) (last:Nat->Nat) (V:Nat->aB->ah->Prop) (F:(Nat->Prop)->ah->Prop) (base:aJ) (L:Array Bool) (a:aJ) (x:ah):Prop where
 cl:∀ i o,done L i->l[i]?=Z o->∀ e∈o.after,Y .any e=true->done L e.on
 df:a.defers=base.defers
 sz:a.tmps.size=base.tmps.size
 kp:∀ j,(∀ i,i<N->dst i≠Z j)->a.tmps[j]?=base.tmps[j]?
 fr:F (done L) x
 no:∀ i,N<=i->¬ done L i
 val:∃ vs:Nat->aB,∀ i,i<N->done L i->(∀ d,dst i=Z d->a.tmps[d]?=Z (vs i))/\(¬ done L (last i)->V i (vs i) x)
theorem og {P:Program} {Q:Exit->aJ->ah->Prop} {id:Nat} {base:aJ} {w:ah} {l:List Oper} (N:Nat) (dst:Nat->Option Nat) (last:Nat->Nat) (V:Nat->aB->ah->Prop) (F:(Nat->Prop)->ah->Prop)
  (hm:P.follows .mixedOrders=true) (hf:CK l.toArray=true) (hN:l.length=N) (hinj:∀ i j d,i<N->j<N->dst i=Z d->dst j=Z d->i=j) (hs:∀ i d,i<N->dst i=Z d->d<base.tmps.size) (h0:F (fun _=>False) w.drew)
  (hop:∀ i o,i<N->l[i]?=Z o->∀ a w' (D:Nat->Prop),¬ D i->(∀ j oj,D j->l[j]?=Z oj->∀ e∈oj.after,Y .any e=true->D e.on)->(∀ e∈o.after,Y .any e=true->D e.on)->F D w'->Pw i N dst last V base o a w'->∀ K:aJ->ah->Prop,(∀ v w'',V i v w''->F (fun j=>j=i\/D j) w''->(∀ j u,j<N->D j->¬ D (last j)->last j≠i->j≠i->V j u w'->V j u w'')->K (a.put (dst i) v) w'')->wpOp P l.toArray Q i K a w')
  (hend:∀ a w',a.defers=base.defers->a.tmps.size=base.tmps.size->(∀ j,(∀ i,i<N->dst i≠Z j)->a.tmps[j]?=base.tmps[j]?)->(∃ vs:Nat->aB,∀ i,i<N->(∀ d,dst i=Z d->a.tmps[d]?=Z (vs i))/\(N<=last i->V i (vs i) w'))->(∃ D:Nat->Prop,(∀ i,i<N->D i)/\F D w')->Q .normal a w'):(Code.region id l.toArray true).wp P Q base w:=by
 refine ng (fun L a x=>PhD l N dst last V F base L a x) hm hf ?_ ?_ ?_
 ·exact⟨fun i o h=>absurd h (fP _ _),rfl,rfl,fun _ _=>rfl,by rw [show done (Array.replicate l.length false)=fun _=>False from funext fun i=>propext ⟨fun h=>fP _ _ h,False.elim⟩]; exact h0,fun i _=>fP _ _,fun _=>.bool true,fun i _ h=>absurd h (fP _ _)⟩
 ·intro L a x i o hsz I ho hnd kP;have hi:i<l.length:=(List.getElem?_eq_some_iff.1 ho).1;have uz:i<L.size:=by omega
  have hiM:i<N:=by omega
  obtain⟨vs,q1⟩:=I.val;have hon:∀ e∈o.after,Y .any e=true->e.on<N:=fun e he hb=>by
   have h7:=List.all_eq_true.1 hf i (List.mem_range.2 (by simpa using hi));have ho':(l.toArray)[i]?=Z o:=by simpa using ho
   rw [ho'] at h7;have h8:=Array.all_eq_true'.1 h7 e he;rw [hb] at h8;have:e.on<i:=by simpa using h8
   omega
  have lv:∀ e∈o.after,Y .any e=true->(last e.on=i\/N<=last e.on)->V e.on (vs e.on) x:=fun e he hbd hl=>by
   refine (q1 e.on (hon e he hbd) (kP e he hbd)).2 ?_;rcases hl with hl|hl
   ·rw [hl]; exact hnd
   ·exact I.no _ hl
  have seen:Pw i N dst last V base o a x:=⟨fun j u hj hu=>dL (by rw [I.kp j hj]; exact hu),fun e he hbd hl d hd=>by
   rw [dL ((q1 e.on (hon e he hbd) (kP e he hbd)).1 d hd)];exact lv e he hbd hl,fun e he hbd hl=>⟨_,lv e he hbd hl⟩⟩
  refine hop i o hiM ho a x (done L) hnd I.cl kP I.fr seen _ fun v w'' hvw hfw hpr=>?_;refine⟨fun k q hk hq e he hb=>?_,by rw [put_defers]; exact I.df,by rw [JU]; exact I.sz,fun j hj=>?_,by rw [show done (L.setIfInBounds i true)=fun j=>j=i\/done L j from funext fun j=>propext (fK uz j)]; exact hfw,fun k hk hd=>?_,fun k=>if k=i then v else vs k,fun k Ni hk=>?_⟩
  ·rw [fK uz] at hk ⊢;rcases hk with rfl|hk
   ·rw [hq] at ho;cases ho;exact Or.inr (kP e he hb)
   ·exact Or.inr (I.cl k q hk hq e he hb)
  ·rw [xB _ _ _ _ (hj i hiM)];exact I.kp j hj
  ·rcases (fK uz k).1 hd with h9|h9
   ·omega
   ·exact I.no k hk h9
  ·by_cases e:k=i
   ·subst e;simp only [if_true];refine⟨fun d hd=>?_,fun _=>hvw⟩;have h9:d<a.tmps.size:=by rw [I.sz]; exact hs k d Ni hd
    rw [hd];simp [Act.put,h9]
   ·simp only [if_neg e];rcases (fK uz k).1 hk with h9|h9
    ·exact absurd h9 e
    ·obtain⟨p1,p2⟩:=q1 k Ni h9;refine⟨fun d hd=>?_,fun hn=>?_⟩
     ·rw [xB _ _ _ _ (fun h=>e (hinj k i d Ni hiM hd h))];exact p1 d hd
     ·have n1:last k≠i:=fun e3=>hn ((fK uz _).2 (Or.inl e3));have n2:¬ done L (last k):=fun e3=>hn ((fK uz _).2 (Or.inr e3));exact hpr k _ Ni h9 n2 n1 e (p2 n2)
 ·intro L a x I hd;obtain⟨vs,q1⟩:=I.val;exact hend a x I.df I.sz I.kp ⟨vs,fun k hk=>⟨(q1 k hk (hd k (by omega))).1,fun hl=>(q1 k hk (hd k (by omega))).2 (I.no _ hl)⟩⟩ ⟨done L,fun i hi=>hd i (by omega),I.fr⟩
end Rg
namespace Rl
open Go.RowKit Go.Sort Pu Rw Pr Va
end Rl
end Go.Proofs.YtghlpefopidlaaaGreat
