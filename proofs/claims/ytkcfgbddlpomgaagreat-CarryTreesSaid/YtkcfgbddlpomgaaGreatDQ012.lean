/-
  Lists that are the s. Conditions as told.
-/
import Derived.Test.YtkcfgbddlpomgaaGreatDQ011
import Derived.Lib.Strings
set_option maxRecDepth 100000
set_option maxHeartbeats 64000000
open _root_.Array renaming length_toList->L
open _root_.Go renaming World->Z,Calls->ah
open Go.Ending renaming returned->J
open Go.IntKind renaming i64->X
open Go.Lib renaming hid->D,size_eq->aj
open Go.Proofs.Tryz renaming prog->K,ntmps45->O,func45->Q
open Go.Value renaming bool->U,int->V,string->Y,slice->ak
namespace Go.Proofs.YtkcfgbddlpomgaaGreat
namespace Bk
open Go.RowKit Go.Sort Rw YtkcfgbddlpomgaaGreat.Nm Pr
def eqI (x y:Id):Bool:=x.1 == y.1 && x.2 == y.2
theorem xY (x y:Id):eqI x y=true↔x=y:=by
 obtain⟨a,b⟩:=x;obtain⟨c,d⟩:=y;simp [eqI]
theorem sF {α β:Type} {R:α->β->Prop}:∀ {l m} (_:eB R l m) (k:Nat) (a:α),l[k]?=some a->∃ b,m[k]?=some b/\R a b
 | _,_,.nil,k,b,h=>by simp at h
 | _,_,.cons x t,0,b,h=>by
  simp at h;subst h;exact⟨_,rfl,x⟩
 | _,_,.cons x t,k+1,b,h=>by
  obtain⟨a,h1,h2⟩:=sF t k b (by simpa using h);exact⟨a,by simpa using h1,h2⟩
end Bk
namespace Pr
open Go.RowKit Go.Sort Pu Rw Va
theorem Nq (s p:ByteArray) (w:Z):ah K 106 #[Y s,Y p] w fun e w'=>e=J (U (pfx p s))/\w'=w:=by
 show ah K _ _ _ fun e w'=>e=J (U (Lib.hasPrefix s.data.toList p.data.toList))/\w'=w;rw [<- Lib.hasPrefix_of_take,<- aj,<- aj];go_enter Tryz.func106,Tryz.ntmps106;go_wp2
 ·rename_i h
  go_ret;refine⟨?_,rfl⟩;show J (U ((s.extract 0 p.size).toList == p.toList))=_;rw [Lib.extract_toList,Lib.toList_data];simp [h]
 ·rename_i h
  go_ret;refine⟨?_,rfl⟩;show J (U false)=_;simp [h]
theorem tH (s p:ByteArray) (w:Z):ah K 77 #[Y s,Y p] w fun e w'=>e=J (U (pfx p s))/\w'=w:=by
 go_enter Tryz.func77,Tryz.ntmps77;go_wp2_with fail;refine (Nq s p w).mono ?_;rintro e w' ⟨rfl,rfl⟩;go_wp2;go_ret;exact⟨rfl,rfl⟩
theorem Wu (s u:ByteArray) (h:s.size=u.size):pfx u s=(s.data.toList == u.data.toList):=by
 have hl:u.data.toList.length=s.data.toList.length:=by rw [L,L]; exact h.symm
 rw [Bool.eq_iff_iff,beq_iff_eq,fI];exact⟨fun h1=>(h1.eq_of_length hl).symm,fun h1=>by rw [h1]; exact List.prefix_refl _⟩
theorem Qw (s u:ByteArray) (h:¬ s.size=u.size):(s.data.toList == u.data.toList)=false:=by
 rw [beq_eq_false_iff_ne];intro e;have:=congrArg List.length e;rw [L,L] at this;exact h this
theorem hB (w:Z) (nm:ByteArray) (k lo hi:Int) (u:ByteArray) (t:Bool) (n:Int) (s:ByteArray):Below w.heap.size w ((w.alloc (.cells #[Y nm,V X k,V X lo,V X hi,Y u] 106)).alloc (.cells #[U t,V X n,Y s] 93)) :=
 ((Below.refl w.heap.size w).alloc (Nat.le_refl _) _).alloc (by simp) _
theorem Qx (nm:ByteArray) (lo hi:Int) (t:Bool) (n:Int) (s:ByteArray) (w:Z):ah K 45 #[cv (r5 (nm,.rg lo hi)),vl t n s] w fun e w'=>e=J (U (dX (.rg lo hi) (t,n,s)))/\Below w.heap.size w w':=by
 simp only [r5,kN,jk,jl,kT];have R:=D (show dX (.rg lo hi) (t,n,s)=(!t && (decide (lo<=n) && decide (n<=hi))) from rfl);have B:=D (hB w nm 1 lo hi ⟨#[]⟩ t n s);generalize dX (.rg lo hi) (t,n,s)=r at *;by_cases h1:lo<=n <;> have H1:=D h1 <;> cases t <;> go_enter Q,O <;> go_wp2 <;> go_ret <;> exact⟨eD (by rw [R.out]; have h:=H1.out; simp [h] <;> omega),B.out⟩
theorem Qy (nm u:ByteArray) (t:Bool) (n:Int) (s:ByteArray) (w:Z):ah K 45 #[cv (r5 (nm,.tx u)),vl t n s] w fun e w'=>e=J (U (dX (.tx u) (t,n,s)))/\Below w.heap.size w w':=by
 simp only [r5,kN,jk,jl,kT];have R:=D (show dX (.tx u) (t,n,s)=(t && (s.data.toList == u.data.toList)) from rfl);have B:=D (hB w nm 2 0 0 u t n s);generalize dX (.tx u) (t,n,s)=r at *;by_cases h1:s.size=u.size
 ·have e1:(((s.size:Nat):Int) != ((u.size:Nat):Int))=false:=by simp [h1]
  have E:=D (Wu s u h1);clear h1;cases t
  ·go_enter Q,O;go_wp2;go_ret;exact⟨eD (by rw [R.out]; simp),B.out⟩
  ·go_enter Q,O;go_wp2_with fail;refine (tH s u _).mono ?_;rintro e w' ⟨rfl,rfl⟩;go_wp2;go_ret;exact⟨eD (by rw [R.out,E.out]; simp),B.out⟩
 ·have e1:(((s.size:Nat):Int) != ((u.size:Nat):Int))=true:=by simp; omega
  have E:=D (Qw s u h1);clear h1;go_enter Q,O;go_wp2;go_ret;exact⟨eD (by rw [R.out,E.out]; simp),B.out⟩
theorem Qz (nm u:ByteArray) (t:Bool) (n:Int) (s:ByteArray) (w:Z):ah K 45 #[cv (r5 (nm,.pr u)),vl t n s] w fun e w'=>e=J (U (dX (.pr u) (t,n,s)))/\Below w.heap.size w w':=by
 simp only [r5,kN,jk,jl,kT];have R:=D (show dX (.pr u) (t,n,s)=(t && pfx u s) from rfl);have B:=D (hB w nm 3 0 0 u t n s);generalize dX (.pr u) (t,n,s)=r at *;cases t
 ·go_enter Q,O;go_wp2;go_ret;exact⟨eD (by rw [R.out]; simp),B.out⟩
 ·go_enter Q,O;go_wp2_with fail;refine (tH s u _).mono ?_;rintro e w' ⟨rfl,rfl⟩;go_wp2;go_ret;exact⟨eD (by rw [R.out]; simp),B.out⟩
theorem Ce (c:Cn) (t:Bool) (n:Int) (s:ByteArray) (w:Z):ah K 45 #[cv (r5 c),vl t n s] w fun e w'=>e=J (U (dX c.2 (t,n,s)))/\Below w.heap.size w w':=by
 obtain⟨nm,k⟩:=c;cases k with
 | rg lo hi=>exact Qx nm lo hi t n s w
 | tx u=>exact Qy nm u t n s w
 | pr u=>exact Qz nm u t n s w
end Pr
namespace Av
open Go.RowKit Rw YtkcfgbddlpomgaaGreat.Nm Pr Bk
theorem Js (l:List eO) (x:eO) (h:∀ (j:Nat) (y:eO),l[j]?=some y->y≠x):fG l x=-1:=by
 induction l with
 | nil=>rfl
 | cons a l ih =>
  rw [fG,if_neg (h 0 a rfl),ih fun j y hj=>h (j+1) y (by simpa using hj),if_pos rfl]
theorem QB (l:List eO) (k:Nat) (x:eO) (h:l[k]?=some x) (hall:∀ (j:Nat) (z:eO),j<k->l[j]?=some z->z≠x):fG l x=k:=by
 induction l generalizing k with
 | nil=>simp at h
 | cons a l ih =>
  cases k with
  | zero =>
   obtain rfl:a=x:=by simpa using h
   rw [fG,if_pos rfl]
   rfl
  | succ k =>
   have h2:=ih k (by simpa using h) fun j z hj hz=>hall (j+1) z (by omega) (by simpa using hz);rw [fG,if_neg (hall 0 a (by omega) rfl),h2,if_neg (by omega)];omega
theorem Gc (l:List eO) (x:eO):decide ((0:Int)<=fG l x)=decide (x∈l):=by
 induction l with
 | nil=>simp [fG]
 | cons a l ih =>
  have hb:=pq l x;rw [fG];by_cases h:a=x
  ·rw [if_pos h]; simp [h]
  ·rw [if_neg h];have h':¬ x=a:=fun e=>h e.symm;simp only [List.mem_cons,h',false_or];rw [<- ih];by_cases h2:fG l x=-1
   ·rw [if_pos h2,h2]
   ·rw [if_neg h2];have h3:0<=fG l x:=by omega
    have h4:0<=fG l x+1:=by omega
    simp [h3,h4]
theorem Nr (sv:Sl) (l:List eO) (x:eO) (w:Z) (hs:vV w (dR sv) l) :
  ah K 111 #[dR sv,mD x] w fun e w'=>e=J (V X (fG l x))/\Below w.heap.size w w':=by
 obtain⟨c,d⟩:=x;obtain⟨so,sn,sc⟩:=sv;obtain⟨ao,ac,hv⟩:=hs.len;have hv:ak so sn sc=ak ao l.length ac:=hv;obtain⟨rfl,rfl,rfl⟩:so=ao/\sn=l.length/\sc=ac:=by simpa using hv
 have h0:=fE w (.cells #[V X c,V X d] 38);have h2:=dL w #[V X c,V X d] 38;have B:=D h0;have HS:=D (hs.on h0);have X3:=D h2;have lm:=hs.most;unfold maxLen at lm;obtain⟨n,hn⟩:∃ n,n=l.length:=⟨_,rfl⟩;rw [<- hn] at HS lm ⊢;have HN:=D hn.symm;clear h0 h2 hs hv hn;go_enter Tryz.func111,Tryz.ntmps111;go_upto_region 1 with fail;generalize w.alloc (.cells #[V X c,V X d] 38)=W at *;go_wp2
 go_loopw [8] (fun i wr=>∃ k:Nat,k<=n/\i=V X k/\Below W.heap.size W wr/\∀ (j:Nat) (y:eO),j<k->l[j]?=some y->y≠(c,d)) (fun i _=>n-(intOf i).toNat)
 case atStart=>exact⟨0,Nat.zero_le _,rfl,Below.refl _ _,fun j y h=>by omega⟩
 case round =>
  obtain⟨k,hk,rfl,hbe,hall⟩:=hrel;have BE:=D hbe;have AL:=D hall;clear hbe hall;by_cases hlt:k<n
  ·obtain⟨y,hy⟩:∃ y,l[k]?=some y:=⟨_,List.getElem?_eq_getElem (by rw [HN.out]; exact hlt)⟩;obtain⟨p,ix,px⟩:=elJ HS.out rfl HN.out hy;have DD:Below W.heap.size W wr.drew:=BE.out.drew;obtain⟨p0,p1⟩:=px wr BE.out;obtain⟨y1,y2⟩:=y;simp only at p0 p1;obtain⟨x0,x1⟩:=(X3.out.on BE.out).cs2;have hw3:IntKind.i64.wrap ((k:Int)+1)=(k:Int)+1:=IntWalk.i64_in _ (by omega);obtain⟨r,hr⟩:∃ r,(c == y1 && d == y2)=r:=⟨_,rfl⟩;have he:=rz c d y1 y2 r hr;have DB:=D DD;have HY:=D hy;have HR:=D hr;clear px hy hr DD;cases r
   ·go_wp2_with fail
    go_quiet (fail)
    go_wp2
    go_roundw
    case rel=>exact⟨k+1,by omega,by go_num,⟨BE.out.os,BE.out.tape,BE.out.output,BE.out.size,BE.out.block⟩,fun j y' hj h1=>by
     rcases Nat.lt_or_ge j k with h3|h3
     ·exact AL.out j y' h3 h1
     ·obtain rfl:j=k:=by omega
      have e1:=HY.out;rw [h1] at e1;rw [Option.some.inj e1];intro e;obtain⟨rfl,rfl⟩:y1=c/\y2=d:=by simpa using e
      have:=HR.out;simp at this⟩
    case measure=>simp [intOf]; omega
   ·go_wp2_with fail
    go_quiet (fail)
    go_wp2;go_ret;have h8:=HR.out;obtain⟨rfl,rfl⟩:c=y1/\d=y2:=by simpa using h8
    exact⟨by rw [QB l k (c,d) HY.out AL.out]; rfl,B.out.trans (Below.mono ⟨BE.out.os,BE.out.tape,BE.out.output,BE.out.size,BE.out.block⟩ B.out.size)⟩
  ·obtain rfl:k=n:=by omega
   go_wp2;go_ret;have hd:fG l (c,d)=-1:=Js l (c,d) fun j y hj=>AL.out j y (by rw [<- HN.out]; exact (List.getElem?_eq_some_iff.1 hj).1) hj;exact⟨by rw [hd]; rfl,B.out.trans (BE.out.mono B.out.size)⟩
theorem Ec (sv:Sl) (l:List eO) (x:eO) (w:Z) (hs:vV w (dR sv) l) :
  ah K 97 #[dR sv,mD x] w fun e w'=>e=J (U (decide (x∈l)))/\Below w.heap.size w w':=by
 have h0:=fE w (.cells #[V X x.1,V X x.2] 38);have h2:=dL w #[V X x.1,V X x.2] 38;have C:=Nr sv l x _ (hs.on h0);have R:=D (Gc l x);obtain⟨c,d⟩:=x;obtain⟨so,sn,sc⟩:=sv;have B:=D h0;obtain⟨x0,x1⟩:=h2.cs2;generalize fG l (c,d)=r at *;generalize decide ((c,d)∈l)=s at *;clear h0 h2 hs;go_enter Tryz.func97,Tryz.ntmps97;go_wp2_with fail;refine C.mono ?_;rintro e w1 ⟨rfl,hb⟩;go_wp2;go_ret;exact⟨by have h:=R.out; subst h; rfl,B.out.trans (hb.mono B.out.size)⟩
theorem Ns (me:Int) (nv av ev ov:Value) (sv:Sl) (l:List eO) (x:eO) (w:Z) (hs:vV w (dR sv) l) :
  ah K 69 #[.agg #[V X me,nv,av,dR sv,ev,ov],mD x] w fun e w'=>e=J (U (decide (x∈l)))/\Below w.heap.size w w':=by
 obtain⟨h0,h1,h2⟩:=gK w #[V X me,nv,av,dR sv,ev,ov] #[V X x.1,V X x.2] 33 38;have C:=Ec sv l x _ (hs.on h0);obtain⟨c,d⟩:=x;obtain⟨so,sn,sc⟩:=sv;have B:=D h0;have b3:=h1.cell 3;obtain⟨x0,x1⟩:=h2.cs2;simp only [List.getElem?_toArray,List.getElem?_cons_zero,List.getElem?_cons_succ] at b3;generalize decide ((c,d)∈l)=s at *;clear h0 h1 h2 hs;go_enter Tryz.func69,Tryz.ntmps69;go_wp2_with fail;refine C.mono ?_;rintro e w1 ⟨rfl,hb⟩;go_wp2;go_ret;exact⟨rfl,B.out.trans (hb.mono B.out.size)⟩
end Av
end Go.Proofs.YtkcfgbddlpomgaaGreat
