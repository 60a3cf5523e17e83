/-
  A variable that hold. Conditions as told.
-/
import Derived.Test.YtkcfgbddlpomgaaGreatCQ018
import Derived.Test.YtkcfgbddlpomgaaGreatCQ020
set_option maxRecDepth 100000
set_option maxHeartbeats 64000000
open _root_.Bool renaming false->aD,true->bE
open _root_.Go renaming World->aA,Value->aF,bodyPost_ret->aQ,Calls->bf,maxLen->bC,Addr->bD
open Go.Act renaming put->aU,eval->bA
open Go.Builtin renaming append_->aG,copy_->aP
open Go.Ending renaming returned->aI
open Go.Instr renaming sliceAt->au
open Go.IntKind renaming i64->V,wrap_i64->aX
open Go.Lib renaming hid->L
open Go.Obj renaming cells->Z
open Go.Operand renaming tmp->aO
open Go.Proofs.Tryz renaming prog->X,ntmps51->aW,func51->aY,results44->aZ,results28->bn
open Go.RowKit.Below renaming refl->ak,heap_setCell->aL
open Go.Value renaming slice->J,int->U,string->aj,pointer->aB,bool->aJ,agg->bF
open _root_.List renaming getElem?_eq_getElem->ah,length_map->aC,length_append->aK,getElem?_map->aN,take_of_length_le->aR,getElem?_toArray->aS,mem_of_getElem?->aT
open _root_.Nat renaming le_refl->ay,le_trans->aH,zero_le->aM,lt_or_ge->aV,mul_le_mul->bg
open _root_.Option renaming none->O,some->Y
namespace Go.Proofs.YtkcfgbddlpomgaaGreat
namespace At
open Go.RowKit Go.Sort Va In
def oh (W:aA) (b:Nat) (t:Bool) (i:Int) (s:ByteArray):Prop:=W.heap[b]?=Y (Z #[aJ t,U V i,aj s] 93)
theorem oh.cell {W:aA} {b:Nat} {t:Bool} {i:Int} {s:ByteArray} (h:oh W b t i s) (k:Nat):W.cell? ⟨b,k,O⟩=#[aJ t,U V i,aj s][k]?:=by
 unfold oh at h;simp [World.cell?,h]
theorem oh.fr {W:aA} {b:Nat} {t:Bool} {i:Int} {s:ByteArray} (h:oh W b t i s) (k:Nat):W.frozen? ⟨b,k,O⟩=aD:=by
 unfold oh at h;simp [World.frozen?,h]
theorem oh.lt {W:aA} {b:Nat} {t:Bool} {i:Int} {s:ByteArray} (h:oh W b t i s):b<W.heap.size:=lt_of_heap h
theorem oh.on {W W':aA} {b:Nat} {t:Bool} {i:Int} {s:ByteArray} (h:oh W b t i s) (hb:Below W.heap.size W W'):oh W' b t i s:=by
 have hl:=h.lt;unfold oh at *;rw [hb.block _ hl]; exact h
theorem oh.more {W:aA} {b:Nat} {t:Bool} {i:Int} {s:ByteArray} (h:oh W b t i s) (o:Obj):oh (W.alloc o) b t i s:=h.on ((ak _ _).alloc (ay _) _)
theorem dI (W:aA) (t:Bool) (i:Int) (s:ByteArray):oh (W.alloc (Z #[aJ t,U V i,aj s] 93)) W.heap.size t i s:=by
 unfold oh;show (W.heap.push _)[W.heap.size]?=_;simp
def Ry (W:aA) (b:Nat) (t:Bool) (i:Int) (s:ByteArray):aA:=((W.setCell ⟨b,0,O⟩ (aJ t)).setCell ⟨b,1,O⟩ (U V i)).setCell ⟨b,2,O⟩ (aj s)
theorem oh.acp {W:aA} {b:Nat} {t:Bool} {i:Int} {s:ByteArray} (h:oh W b t i s) (t':Bool) (i':Int) (s':ByteArray):oh (Ry W b t' i' s') b t' i' s':=by
 unfold oh Ry at *;simp [World.setCell,Array.getElem?_modify,h]
theorem uj {B b:Nat} {W W':aA} (hb:Below B W W') (hB:B<=b) (t:Bool) (i:Int) (s:ByteArray):Below B W (Ry W' b t i s):=((hb.setCell hB _).setCell hB _).setCell hB _
theorem CF:∀ (l:List A4) (n:ByteArray) (k:Nat) (x:A4),l[k]?=Y x->x.1=n->(∀ (j:Nat) (y:A4),j<k->l[j]?=Y y->y.1≠n)->wD l n=Y x.2
 | [],n,k,x,h,_,_=>by simp at h
 | y::r,n,0,x,h,e,_=>by simp at h; subst h; simp [wD,e]
 | y::r,n,k+1,x,h,e,hn=>by
  simp only [wD];rw [if_neg (hn 0 y (by omega) rfl),CF r n k x (by simpa using h) e (fun j z hj hz=>hn (j+1) z (by omega) (by simpa using hz))]
theorem NH (l:List A4) (n:ByteArray) (h:∀ (j:Nat) (y:A4),j<l.length->l[j]?=Y y->y.1≠n):wD l n=O :=
 get_none l n fun x hx=>by
  obtain⟨j,hj,e⟩:=List.getElem_of_mem hx;exact h j x hj (by rw [ah hj,e])
theorem acr:abW:=by
 intro lv l n w hl h5 hn;have HL:=L hl;obtain⟨lo,lc,rfl⟩:=hl.len;have B0:=L (show Below w.heap.size w (w.alloc (Z #[aJ aD,U V 0,aj ⟨#[]⟩] 93)) from (ak _ _).alloc (ay _) _);have HT0:=L (dI w aD 0 ⟨#[]⟩);clear hl;go_enter Tryz.func44,Tryz.ntmps44;go_wp2;generalize w.alloc (Z #[aJ aD,U V 0,aj ⟨#[]⟩] 93)=w1 at B0 HT0 ⊢
 go_loopw [10] (fun i wr=>∃ k:Nat,k<=l.length/\i=U V k/\Below w.heap.size w wr/\oh wr w.heap.size aD 0 ⟨#[]⟩/\∀ (j:Nat) (y:A4),j<k->l[j]?=Y y->y.1≠n) (fun i _=>l.length-(intOf i).toNat)
 case atStart=>exact⟨0,aM _,rfl,B0.out,HT0.out,fun j y h=>by omega⟩
 case round =>
  obtain⟨k,hk,rfl,hb,ht,hall⟩:=hrel;have HB:=L hb;have HT:=L ht;have AL:=L hall;clear hb hall ht;by_cases hlt:k<l.length
  ·obtain⟨⟨xn,xt,xi,xs⟩,hx⟩:∃ x,l[k]?=Y x:=⟨_,ah hlt⟩;obtain⟨p,ix,px⟩:=wh HL.out rfl rfl hx;obtain⟨p0,p1,p2,p3⟩:=px _ HB.out;have HX:=L hx;have B4:=L (HB.out.alloc HB.out.size (Z #[aj xn,aJ xt,U V xi,aj xs] 97));have T4:=L (HT.out.more (Z #[aj xn,aJ xt,U V xi,aj xs] 97));clear hx px;simp only at p0 p1 p2 p3;by_cases he:xn=n
   ·have hn:(xn.toList == n.toList)=bE:=by rw [he]; exact beq_self_eq_true _
    have R:=L (CF l n k _ HX.out he AL.out);have HE:=L he;clear he;have c0:=HT.out.cell 0;have c1:=HT.out.cell 1;have c2:=HT.out.cell 2;simp at c0 c1 c2;have f0:=HT.out.fr 0;have f1:=HT.out.fr 1;have f2:=HT.out.fr 2;have Z7:=HT.out.lt;go_wp2;have T5:=(HT.out.acp xt xi xs).more (Z #[aj xn,aJ xt,U V xi,aj xs] 97);have B5:=(uj HB.out (ay _) xt xi xs).alloc (uj HB.out (ay _) xt xi xs).size (Z #[aj xn,aJ xt,U V xi,aj xs] 97);unfold Ry at T5 B5;generalize World.alloc _ (Z #[aj xn,aJ xt,U V xi,aj xs] 97)=w6 at T5 B5 ⊢;have d0:=T5.cell 0;have d1:=T5.cell 1;have d2:=T5.cell 2;simp at d0 d1 d2;refine aQ (v:=Js (Y (xt,xi,xs))) (by simp [results,aZ,go_sem,d0,d1,d2,Js]) rfl ⟨by rw [R.out],B5⟩
   ·have hn:(xn.toList == n.toList)=aD:=by rw [beq_eq_false_iff_ne]; exact fun h=>he (nL h)
    have HE:=L he;clear he;go_wp2
    go_roundw
    case rel=>exact⟨k+1,by omega,by go_num,B4.out,T4.out,fun j y hj hy=>by
     rcases aV j k with h3|h3
     ·exact AL.out j y h3 hy
     ·obtain rfl:j=k:=by omega
      have e:=HX.out;rw [hy] at e;rw [Option.some.inj e];exact HE.out⟩
    case measure=>simp [intOf]; omega
  ·obtain rfl:k=l.length:=by omega
   have R:=L (NH l n (fun j y hj hy=>AL.out j y hj hy));have c0:=HT.out.cell 0;have c1:=HT.out.cell 1;have c2:=HT.out.cell 2;simp at c0 c1 c2;have f0:=HT.out.fr 0;have f1:=HT.out.fr 1;have f2:=HT.out.fr 2;have Z7:=HT.out.lt;go_wp2;have T5:=HT.out.acp aD 0 ⟨#[]⟩;have B5:=uj HB.out (ay _) aD 0 ⟨#[]⟩;unfold Ry at T5 B5;generalize World.setCell _ _ (aj ⟨#[]⟩)=w6 at T5 B5 ⊢;have d0:=T5.cell 0;have d1:=T5.cell 1;have d2:=T5.cell 2;simp at d0 d1 d2;refine aQ (v:=Js O) (by simp [results,aZ,go_sem,d0,d1,d2,Js]) rfl ⟨by rw [R.out],B5⟩
end At
namespace Rl
open Go.RowKit Go.Sort Pu Rw Pr Va
def JA (l:List An) (c:Cn):Bool:=match At.wD l c.1 with
 | some v=>dP c.2 v
 | none=>aD
theorem Gy:∀ (l:List An) (n:ByteArray),At.wD l n=(l.find? fun a=>decide (a.1=n)).map (·.2)
 | [],n=>rfl
 | x::r,n=>by
  simp only [At.wD,List.find?_cons];by_cases h:x.1=n
  ·simp [h]
  ·simp [h,Gy r n]
theorem NI {p:List Cn} {l:List An} (h:NL l):qD p l=p.all (JA l):=by
 rw [Nf h.nodup]
 congr 1
 funext c
 unfold JA;rw [Gy];cases l.find? fun a=>decide (a.1=c.1) <;> rfl
theorem KU {α:Type} (f:α->Bool) (l:List α) (m:Nat) (h:l.length=m):(l.take m).all f=l.all f:=by rw [<- h,List.take_length]
theorem NJ (pv lv:aF) (p:List Cn) (l:List An) (w:aA) (hp:fG w pv (p.map r5)) (hl:mF w lv l) (np:NF p) (nl:NL l) :
  bf X 18 #[pv,lv] w fun e w'=>e=aI (aJ (qD p l))/\Below w.heap.size w w':=by
 have CO:=L (NI (p:=p) nl);have HP:=L hp;have HL:=L (yP.2 hl);have h5:l.length<=100:=by have:=nl.five; omega
 have SM:=L np.small;have m5:p.length<=5:=np.five;obtain⟨ao,ac,rfl⟩:=hp.len;rw [aC] at HP ⊢;generalize hm:p.length=m at *;have HM:=L hm;generalize qD p l=r at *;clear hp hl hm np nl;go_enter Tryz.func18,Tryz.ntmps18;go_wp2
 go_loopw [11] (fun i wr=>∃ k:Nat,k<=m/\i=U V k/\Below w.heap.size w wr/\(p.take k).all (JA l)=bE) (fun i _=>m-(intOf i).toNat)
 case atStart=>exact⟨0,aM _,rfl,ak _ _,rfl⟩
 case round =>
  obtain⟨k,hk,rfl,hb,hall⟩:=hrel;have HB:=L hb;have AL:=L hall;clear hb hall;by_cases hlt:k<m
  ·obtain⟨⟨xn,xk⟩,hx⟩:∃ x,p[k]?=Y x:=⟨_,ah (by rw [HM.out]; exact hlt)⟩;obtain⟨q,ix,px⟩:=U7 (x:=r5 (xn,xk)) HP.out rfl (by rw [aC]; exact HM.out) (by rw [aN,hx]; rfl);obtain⟨p0,p1,p2,p3,p4⟩:=px _ HB.out;have MO:=L (uM (JA l) p k (xn,xk) hx);have NO:=L (fun h=>yg (JA l) p k (xn,xk) hx h);have SX:=L (SM.out _ (aT hx));have BX:=L (show dG (wr.alloc (Z #[aj xn,U V (kN xk),U V (jg xk),U V (jh xk),aj (kT xk)] 106)) wr.heap.size (cells5 (xn,kN xk,jg xk,jh xk,kT xk)).toArray 106 from dI wr _ _);have B1:=L (HB.out.alloc HB.out.size (Z #[aj xn,U V (kN xk),U V (jg xk),U V (jh xk),aj (kT xk)] 106));have G:=L (At.acr lv l xn (wr.alloc (Z #[aj xn,U V (kN xk),U V (jg xk),U V (jh xk),aj (kT xk)] 106)) (HL.out.on B1.out) h5 (by have:xn.size<=100:=SX.out.1; unfold bC; omega));have GC:=L (show JA l (xn,xk)=match At.wD l xn with
    | some v=>dP xk v
    | none=>aD from rfl)
   have HO:=L (fun t n s W=>BD (xn,xk) t n s W);obtain⟨gg,hgg⟩:∃ g,JA l (xn,xk)=g:=⟨_,rfl⟩;rw [hgg] at GC MO NO;simp only [r5] at p0 p1 p2 p3 p4 HO;clear hx px hgg;go_wp2_with fail;refine G.out.mono ?_;rintro e2 w2 ⟨he2,hb2⟩;have B2:=L (B1.out.trans (hb2.mono B1.out.size));obtain⟨x0,x1,x2,x3,x4⟩:=eH (BX.out.on hb2);simp only at x0 x1 x2 x3 x4;have hwl:wr.heap.size<w2.heap.size:=by have:=hb2.size; simp at this; omega
   rcases hg:At.wD l xn with _|⟨t,n,s⟩
   ·rw [hg] at he2 GC;subst he2;have R:=L (show r=aD by rw [CO.out]; exact NO.out GC.out);clear hb2 G B1 BX ix p0 p1 p2 p3 p4 hg;unfold At.Js;go_wp2;go_ret;exact⟨dZ R.out.symm,B2.out.alloc B2.out.size _⟩
   ·rw [hg] at he2 GC;subst he2;clear hb2 G B1 BX ix p0 p1 p2 p3 p4 hg;unfold At.Js;go_wp2_with fail;refine (HO.out _ _ _ _).mono ?_;rintro e3 w3 ⟨rfl,hb3⟩;have B3:=L ((B2.out.alloc B2.out.size (Z #[aJ t,U V n,aj s] 93)).trans (hb3.mono (B2.out.alloc B2.out.size (Z #[aJ t,U V n,aj s] 93)).size));rw [<- GC.out];clear hb3 B2 x0 x1 x2 x3 x4 hwl;cases gg
    ·have R:=L (show r=aD by rw [CO.out]; exact NO.out rfl);go_wp2;go_ret;exact⟨dZ R.out.symm,B3.out⟩
    ·go_wp2
     go_roundw
     case rel=>exact⟨k+1,by omega,by go_num,B3.out,by rw [MO.out,AL.out]; rfl⟩
     case measure=>simp [intOf]; omega
  ·obtain rfl:k=m:=by omega
   have R:=L (show r=bE by rw [CO.out,<- KU _ p _ HM.out]; exact AL.out);go_wp2;go_ret;exact⟨dZ R.out.symm,HB.out⟩
theorem JB (pv qv:aF) (p b:List Cn) (w:aA) (hp:fG w pv (p.map r5)) (hl:fG w qv (b.map r5)) (np:NF p) (nb:NF b) :
  bf X 107 #[pv,qv] w fun e w'=>e=aI (aJ (ou p b))/\Below w.heap.size w w':=by
 have CO:=L (Nq (a:=p) nb.rise);have HP:=L hp;have HL:=L hl;have h5:b.length<=100:=by have:=nb.five; omega
 have GP:=L np.iV;have GB:=L nb.iV;have m5:p.length<=5:=np.five;obtain⟨ao,ac,rfl⟩:=hp.len;rw [aC] at HP ⊢;generalize hm:p.length=m at *;have HM:=L hm;generalize ou p b=r at *;clear hp hl hm np nb;go_enter Tryz.func107,Tryz.ntmps107;go_wp2
 go_loopw [11] (fun i wr=>∃ k:Nat,k<=m/\i=U V k/\Below w.heap.size w wr/\(p.take k).all (Jk b)=bE) (fun i _=>m-(intOf i).toNat)
 case atStart=>exact⟨0,aM _,rfl,ak _ _,rfl⟩
 case round =>
  obtain⟨k,hk,rfl,hb,hall⟩:=hrel;have HB:=L hb;have AL:=L hall;clear hb hall;by_cases hlt:k<m
  ·obtain⟨⟨xn,xk⟩,hx⟩:∃ x,p[k]?=Y x:=⟨_,ah (by rw [HM.out]; exact hlt)⟩;obtain⟨q,ix,px⟩:=U7 (x:=r5 (xn,xk)) HP.out rfl (by rw [aC]; exact HM.out) (by rw [aN,hx]; rfl);obtain⟨p0,p1,p2,p3,p4⟩:=px _ HB.out;have MO:=L (uM (Jk b) p k (xn,xk) hx);have NO:=L (fun h=>yg (Jk b) p k (xn,xk) hx h);have GX:=L (GP.out _ (aT hx));have BX:=L (show dG (wr.alloc (Z #[aj xn,U V (kN xk),U V (jg xk),U V (jh xk),aj (kT xk)] 106)) wr.heap.size (cells5 (xn,kN xk,jg xk,jh xk,kT xk)).toArray 106 from dI wr _ _);have B1:=L (HB.out.alloc HB.out.size (Z #[aj xn,U V (kN xk),U V (jg xk),U V (jh xk),aj (kT xk)] 106));have G:=L (Jo qv b xn (wr.alloc (Z #[aj xn,U V (kN xk),U V (jg xk),U V (jh xk),aj (kT xk)] 106)) (HL.out.on B1.out) h5);have GC:=L (show Jk b (xn,xk)=match U9 b xn with
    | some y=>eB y.2 xk
    | none=>aD from rfl)
   obtain⟨gg,hgg⟩:∃ g,Jk b (xn,xk)=g:=⟨_,rfl⟩;rw [hgg] at GC MO NO;simp only [r5] at p0 p1 p2 p3 p4;clear hx px hgg;go_wp2_with fail;refine G.out.mono ?_;rintro e2 w2 ⟨he2,hb2⟩;have B2:=L (B1.out.trans (hb2.mono B1.out.size));obtain⟨x0,x1,x2,x3,x4⟩:=eH (BX.out.on hb2);simp only at x0 x1 x2 x3 x4;have hwl:wr.heap.size<w2.heap.size:=by have:=hb2.size; simp at this; omega
   rcases hg:U9 b xn with _|⟨yn,yk⟩
   ·rw [hg] at he2 GC;subst he2;have R:=L (show r=aD by rw [CO.out]; exact NO.out GC.out);clear hb2 G B1 BX ix p0 p1 p2 p3 p4 hg;unfold ZY;go_wp2;go_ret;exact⟨dZ R.out.symm,B2.out.alloc B2.out.size _⟩
   ·obtain⟨hm1,hm2⟩:=QF hg;obtain rfl:yn=xn:=hm2;rw [hg] at he2 GC;subst he2;have WC:=L (fun W=>Ns yn xk yk W GX.out (GB.out _ hm1));simp only [r5] at WC;clear hb2 G B1 BX ix p0 p1 p2 p3 p4 hg hm1;unfold ZY;simp only [r5];go_wp2_with fail;refine (WC.out _).mono ?_;rintro e3 w3 ⟨rfl,hb3⟩;have B3:=L ((B2.out.alloc B2.out.size (Z #[aj yn,U V (kN yk),U V (jg yk),U V (jh yk),aj (kT yk)] 106)).trans (hb3.mono (B2.out.alloc B2.out.size (Z #[aj yn,U V (kN yk),U V (jg yk),U V (jh yk),aj (kT yk)] 106)).size));rw [<- GC.out];clear hb3 B2 x0 x1 x2 x3 x4 hwl WC;cases gg
    ·have R:=L (show r=aD by rw [CO.out]; exact NO.out rfl);go_wp2;go_ret;exact⟨dZ R.out.symm,B3.out⟩
    ·go_wp2
     go_roundw
     case rel=>exact⟨k+1,by omega,by go_num,B3.out,by rw [MO.out,AL.out]; rfl⟩
     case measure=>simp [intOf]; omega
  ·obtain rfl:k=m:=by omega
   have R:=L (show r=bE by rw [CO.out,<- KU _ p _ HM.out]; exact AL.out);go_wp2;go_ret;exact⟨dZ R.out.symm,HB.out⟩
end Rl
namespace Bk
open Go.RowKit Go.Sort Rw YtkcfgbddlpomgaaGreat.Nm Pr
theorem uU {α:Type} {E:Ek α} (K:E.Ok) {w:aA} (B:Nat) {v x:aF} {l m:List α} (hown:Own E w B v l) (hx:Row E w x m) (hn:l.length<=1000000) (hm:m.length<=1000000) (hB:B<=w.heap.size) (ty:TypeId) :
  ∃ v' w',(aG #[E.ts,E.ts] ty #[v,x]).run X w=.ok v' w'/\Own E w' B v' (l++m)/\w.grownBy w' v.ownBlock:=by
 obtain⟨i,i1,i2,i3,i4⟩:=K.info;rcases hx with⟨rfl,rfl⟩|⟨ad,c,rfl,h2,h3,h4⟩
 ·exact⟨v,w,run_append_owned_none (P:=X) (w:=w) B E.ts ty E.t i E.n K.hu i1 v _ _ hown,by simpa using hown,qC _ _⟩
 ·have hf:=K.few;obtain⟨v',w',r1,r2,r3,_⟩:=run_append_own (P:=X) w B E.ts ty E.t i E.z E.n E.bytes K.hu i1 i2 i3 i4 K.zs K.pos v _ _ hown ad m.length c (flat E m) (dU K m) h4 (pq K m) (by unfold bC; omega)
   (aH (bg (show l.length+m.length<=2000000 by omega) hf) (by decide)) hB
  exact⟨v',w',r1,by rw [Own,aK,gF]; exact r2,r3⟩
def Eb (B:Nat) (_ _:Nat) (me:Int) (o1 o2 o3 o4 o5:Option bD) (n1 k1 n2 k2 n3 k3 n4 k4 n5 k5:Nat) (so gQ:Option bD) (sn sc tn tc:Nat) (lo ls:List nH) (_ _ _ _ _ _:aF) (i:Nat) (v:aF) (x:aA):Prop :=
 match i with
 | 0=>v=bF #[U V me,J o1 n1 k1,J o2 n2 k2,J o3 n3 k3,J o4 n4 k4,J o5 n5 k5]
 | 1=>iQ x B v []
 | 2=>v=J so sn sc
 | 3=>iQ x B v lo
 | 4=>v=J gQ tn tc
 | 5=>iQ x B v (lo++ls)
 | _=>True
noncomputable def Rz:Code:=((Tryz.f28.body.bind (eu 16)).getD .skip)
theorem NK (B:Nat) (b2 b12:Nat) (me:Int) (o1 o2 o3 o4 o5:Option bD) (n1 k1 n2 k2 n3 k3 n4 k4 n5 k5:Nat) (so gQ:Option bD) (sn sc tn tc:Nat) (lo ls:List nH) (z0 z1 z2 z3 z4 z5:aF) (i:Nat) (v:aF) (x x':aA) (h:Eb B b2 b12 me o1 o2 o3 o4 o5 n1 k1 n2 k2 n3 k3 n4 k4 n5 k5 so gQ sn sc tn tc lo ls z0 z1 z2 z3 z4 z5 i v x) (hb:Below x.heap.size x x'):Eb B b2 b12 me o1 o2 o3 o4 o5 n1 k1 n2 k2 n3 k3 n4 k4 n5 k5 so gQ sn sc tn tc lo ls z0 z1 z2 z3 z4 z5 i v x':=by
 by_cases hi:i<6
 ·rcases (by omega:i=0\/i=1\/i=2\/i=3\/i=4\/i=5) with rfl|rfl|rfl|rfl|rfl|rfl
  ·exact h
  ·exact dh h hb
  ·exact h
  ·exact dh h hb
  ·exact h
  ·exact dh h hb
 ·unfold Eb
  split <;> first | omega | trivial
theorem acs (Q:Exit->Act->aA->Prop) (W:aA) (b2 b12:Nat) (me:Int) (o1 o2 o3 o4 o5:Option bD) (n1 k1 n2 k2 n3 k3 n4 k4 n5 k5:Nat) (so gQ:Option bD) (sn sc tn tc:Nat) (lo ls:List nH) (z0 z1 z2 z3 z4 z5:aF) (u0 u1 u3 u4 u5 u6 u7 u8 u10 u11 u14 u15 u16 u17 u18 u19 u20 u21 u22 u23 u24 u25 u26 u27 u28 u29 u30 u31 u32 u33 u34 u35 u36 u37 u38 u39 u40 u41 u42 u43 u44 u45 u46 u47 u48 u49 u50 u51 u52 u53 u54 u55 u56 u57 u58 u59 u60 u61 u62:aF)
  (h2:dG W b2 #[z0,z1,z2,z3,z4,z5] 33) (h12:dG W b12 #[U V me,J o1 n1 k1,J o2 n2 k2,J o3 n3 k3,J o4 n4 k4,J o5 n5 k5] 33) (uz:FM W (J so sn sc) lo) (rls:FM W (J gQ tn tc) ls) (l9:lo.length<=1000000) (s9:ls.length<=1000000)
  (hQ:∀ (x:aA) (w9:aF) (v54 v55 v56 v57 v58 v59:aF),dG x b2 #[U V me,J o1 n1 k1,J o2 n2 k2,J o3 n3 k3,J o4 n4 k4,J o5 n5 k5] 33->iQ x W.heap.size w9 (lo++ls)->(∀ j,j<W.heap.size->j≠b2->x.heap[j]?=W.heap[j]?)->(∀ B,B<=b2->Below B W x)->Q .normal ⟨(u0::u1::aB (Y ⟨b2,0,O⟩)::u3::u4::u5::u6::u7::u8::w9::u10::u11::aB (Y ⟨b12,0,O⟩)::J gQ tn tc::u14::u15::u16::u17::u18::u19::u20::u21::u22::u23::u24::u25::u26::u27::u28::u29::u30::u31::u32::u33::u34::u35::u36::u37::u38::u39::u40::u41::u42::u43::u44::u45::u46::u47::u48::u49::u50::u51::u52::u53::v54::v55::v56::v57::v58::v59::u60::u61::u62::[]).toArray,[]⟩ x) :
  Code.wp X Rz Q ⟨(u0::u1::aB (Y ⟨b2,0,O⟩)::u3::u4::u5::u6::u7::u8::J so sn sc::u10::u11::aB (Y ⟨b12,0,O⟩)::J gQ tn tc::u14::u15::u16::u17::u18::u19::u20::u21::u22::u23::u24::u25::u26::u27::u28::u29::u30::u31::u32::u33::u34::u35::u36::u37::u38::u39::u40::u41::u42::u43::u44::u45::u46::u47::u48::u49::u50::u51::u52::u53::u54::u55::u56::u57::u58::u59::u60::u61::u62::[]).toArray,[]⟩ W:=by
 have HQ:=L hQ;have H2:=L h2;have H12:=L h12;have RLO:=L uz;have RLS:=L rls;have LO:=L l9;have LS:=L s9;clear hQ h2 h12 uz rls l9 s9;have iJ:=NK W.heap.size b2 b12 me o1 o2 o3 o4 o5 n1 k1 n2 k2 n3 k3 n4 k4 n5 k5 so gQ sn sc tn tc lo ls z0 z1 z2 z3 z4 z5;unfold Rz
 conv=>arg 2; whnf
 have nd:∀ j,(∀ i,i<6->[54,55,56,57,58,59].getD i 0≠j)->∀ i,i<6->(fun i=>[54,55,56,57,58,59].getD i 0) i≠j:=fun j h=>h;refine Rg.fH 8 6 (fun i=>[54,55,56,57,58,59].getD i 0) (fun i=>if i=1 then 3 else if i=3 then 5 else 6) (Eb W.heap.size b2 b12 me o1 o2 o3 o4 o5 n1 k1 n2 k2 n3 k3 n4 k4 n5 k5 so gQ sn sc tn tc lo ls z0 z1 z2 z3 z4 z5) (by kernel_rfl) (by kernel_rfl) rfl (by decide) (fun i j hi hj h=>(by decide:∀ i,i<6->∀ j,j<6->[54,55,56,57,58,59].getD i 0=[54,55,56,57,58,59].getD j 0->i=j) i hi j hj h) (fun i hi=>(by decide:∀ i,i<6->[54,55,56,57,58,59].getD i 0<63) i hi) ?_ (fun _=>Rg.iW 14 (by kernel_rfl)) ?_ ?_
 ·intro i o hi ho a x D hnd hc hD hb seen K hK;clear HQ;rcases (by omega:i=0\/i=1\/i=2\/i=3\/i=4\/i=5) with rfl|rfl|rfl|rfl|rfl|rfl
  ·cases ho;have e12:a.eval (aO 12)=aB (Y ⟨b12,0,O⟩):=seen.kp 12 _ (nd 12 (by decide)) rfl;obtain⟨y0,y1,y2,y3,y4,y5⟩:=(H12.out.on hb).eZ;exact Rg.cZ rfl rfl (Rg.dR a.eval _ 33 (aO 12) rfl (by rw [e12]; simp [go_sem,y0,y1,y2,y3,y4,y5])) (hK _ _ rfl (ak _ _) fun _ _ _ _ _ _ _ h=>h)
  ·cases ho;have nb:=fT x (Z #[] 58);have hl:=mo (B':=W.heap.size) hb.size (Fh (E:=EU) x);exact Rg.cZ rfl rfl (Rg.iG a.eval _ 44 0 #[] rfl rfl (by simp [go_sem])) (hK (J (Y ⟨x.heap.size,0,O⟩) 0 0) (x.alloc (Z #[] 58)) hl (nb.mono hb.size) fun j u _ _ _ _ _ h=>iJ j u _ _ h nb)
  ·cases ho;have e9:a.eval (aO 9)=J so sn sc:=seen.kp 9 _ (nd 9 (by decide)) rfl;exact Rg.cZ rfl rfl (Rg.fJ a.eval _ (aO 9) rfl x) (hK _ _ e9 (ak _ _) fun _ _ _ _ _ _ _ h=>h)
  ·cases ho;have E55:=seen.at_ ⟨1,.data⟩ (by simp) rfl (Or.inl rfl);have e56:a.eval (aO 56)=J so sn sc:=seen.at_ ⟨2,.data⟩ (by simp) rfl (Or.inr (by decide));have o55:iQ x W.heap.size (a.eval (aO 55)) []:=E55;obtain⟨v',x',r,o',gr⟩:=uU DI W.heap.size o55 (RLO.out.on hb) (by simp) LO.out hb.size 44;have o'':iQ x' W.heap.size v' lo:=by simpa using o'
   exact Rg.cZ rfl rfl (Rg.fM a.eval _ (aO 55) (aO 56) 44 rfl rfl e56 r) (hK v' x' o'' ((ak _ x).grown gr hb.size fun j hj=>(o55.lt j hj).1) fun j u hj dj nl nx ni h=>by
    rcases (by omega:j=0\/j=1\/j=2\/j=3\/j=4\/j=5) with rfl|rfl|rfl|rfl|rfl|rfl
    ·exact h
    ·exact absurd rfl nx
    ·exact h
    ·exact absurd rfl ni
    ·exact h
    ·exact absurd (hc 5 _ dj rfl ⟨3,.data⟩ (by simp) rfl) hnd)
  ·cases ho;have e13:a.eval (aO 13)=J gQ tn tc:=seen.kp 13 _ (nd 13 (by decide)) rfl;exact Rg.cZ rfl rfl (Rg.fJ a.eval _ (aO 13) rfl x) (hK _ _ e13 (ak _ _) fun _ _ _ _ _ _ _ h=>h)
  ·cases ho;have E57:=seen.at_ ⟨3,.data⟩ (by simp) rfl (Or.inl rfl);have e58:a.eval (aO 58)=J gQ tn tc:=seen.at_ ⟨4,.data⟩ (by simp) rfl (Or.inr (by decide));have o57:iQ x W.heap.size (a.eval (aO 57)) lo:=E57;obtain⟨v',x',r,o',gr⟩:=uU DI W.heap.size o57 (RLS.out.on hb) LO.out LS.out hb.size 44;have d3:D 3:=hD ⟨3,.data⟩ (by simp) rfl;exact Rg.cZ rfl rfl (Rg.fM a.eval _ (aO 57) (aO 58) 44 rfl rfl e58 r) (hK v' x' o' ((ak _ x).grown gr hb.size fun j hj=>(o57.lt j hj).1) fun j u hj dj nl nx ni h=>by
    rcases (by omega:j=0\/j=1\/j=2\/j=3\/j=4\/j=5) with rfl|rfl|rfl|rfl|rfl|rfl
    ·exact h
    ·exact absurd d3 nl
    ·exact h
    ·exact absurd rfl nx
    ·exact h
    ·exact absurd rfl ni)
 ·intro kk o h1 h2 ho;rcases (by omega:kk=7) with rfl
  ·cases ho;exact⟨⟨6,.chain⟩,by simp,rfl,rfl⟩
 ·intro a w' df sz kp ⟨vs,hv⟩ hb;have sz':a.tmps.size=63:=sz;have g2:a.tmps[2]?=Y (aB (Y ⟨b2,0,O⟩)):=(kp 2 (nd 2 (by decide))).trans rfl;have g54:a.tmps[54]?=Y (bF #[U V me,J o1 n1 k1,J o2 n2 k2,J o3 n3 k3,J o4 n4 k4,J o5 n5 k5]):=by
   have h:vs 0=bF #[U V me,J o1 n1 k1,J o2 n2 k2,J o3 n3 k3,J o4 n4 k4,J o5 n5 k5]:=(hv 0 (by omega)).2 (by decide);rw [<- h];exact (hv 0 (by omega)).1
  have g59:a.tmps[59]?=Y (vs 5):=(hv 5 (by omega)).1;have G59:=(hv 5 (by omega)).2 (by decide);have o59:iQ w' W.heap.size (vs 5) (lo++ls):=G59;generalize vs 5=v' at *;have H2x:=H2.out.on hb;have lt2:=H2.out.lt;show Rg.fu _ _ _ 2 6 a w';simp only [Rg.fu];refine Rg.fI 33 (aO 2) (aO 54) rfl rfl rfl rfl (Rg.dD g2) (Rg.dD g54) (w':=gM w' b2 (U V me) (J o1 n1 k1) (J o2 n2 k2) (J o3 n3 k3) (J o4 n4 k4) (J o5 n5 k5)) (sH H2x me _ _ _ _ _ _ _ _ _ _ _ _ _ _ _) ?_;refine Rg.cZ rfl rfl (Rg.kM a.eval _ (aO 59) rfl _) ?_;show Q .normal (a.put (Y 9) (a.eval (aO 59))) _;rw [Rg.dD g59];have hx:=dH H2x (U V me) (J o1 n1 k1) (J o2 n2 k2) (J o3 n3 k3) (J o4 n4 k4) (J o5 n5 k5);have ho:=fC o59 b2 lt2 (U V me) (J o1 n1 k1) (J o2 n2 k2) (J o3 n3 k3) (J o4 n4 k4) (J o5 n5 k5);have hk:∀ j,j<W.heap.size->j≠b2->(gM w' b2 (U V me) (J o1 n1 k1) (J o2 n2 k2) (J o3 n3 k3) (J o4 n4 k4) (J o5 n5 k5)).heap[j]?=W.heap[j]?:=fun j hj hne=>(dB w' b2 (U V me) (J o1 n1 k1) (J o2 n2 k2) (J o3 n3 k3) (J o4 n4 k4) (J o5 n5 k5) j hne).trans (hb.block j hj);have hbl:∀ B,B<=b2->Below B W (gM w' b2 (U V me) (J o1 n1 k1) (J o2 n2 k2) (J o3 n3 k3) (J o4 n4 k4) (J o5 n5 k5)):=fun B hB=>dw (hb.mono (Nat.le_of_lt (Nat.lt_of_le_of_lt hB lt2))) hB _ _ _ _ _ _;obtain⟨sa,iw,hsv⟩:=(Row.dn ho).len;generalize gM w' b2 (U V me) (J o1 n1 k1) (J o2 n2 k2) (J o3 n3 k3) (J o4 n4 k4) (J o5 n5 k5)=x2 at *;have ka:∀ j,j≠9->(a.put (Y 9) v').tmps[j]?=a.tmps[j]?:=fun j h1=>by rw [Rg.get_put _ _ _ _ (by omega)]
  have kt:(a.put (Y 9) v').tmps[9]?=Y (v'):=by simp [aU,sz']
  have qF:∀ j,(j<54\/60<=j)->(a.put (Y 9) v').tmps[j]?=(u0::u1::aB (Y ⟨b2,0,O⟩)::u3::u4::u5::u6::u7::u8::v'::u10::u11::aB (Y ⟨b12,0,O⟩)::J gQ tn tc::u14::u15::u16::u17::u18::u19::u20::u21::u22::u23::u24::u25::u26::u27::u28::u29::u30::u31::u32::u33::u34::u35::u36::u37::u38::u39::u40::u41::u42::u43::u44::u45::u46::u47::u48::u49::u50::u51::u52::u53::u54::u55::u56::u57::u58::u59::u60::u61::u62::[])[j]?:=fun j hj=>by
   by_cases hj2:j=9
   ·subst hj2;exact kt
   ·have hs:(u0::u1::aB (Y ⟨b2,0,O⟩)::u3::u4::u5::u6::u7::u8::v'::u10::u11::aB (Y ⟨b12,0,O⟩)::J gQ tn tc::u14::u15::u16::u17::u18::u19::u20::u21::u22::u23::u24::u25::u26::u27::u28::u29::u30::u31::u32::u33::u34::u35::u36::u37::u38::u39::u40::u41::u42::u43::u44::u45::u46::u47::u48::u49::u50::u51::u52::u53::u54::u55::u56::u57::u58::u59::u60::u61::u62::[]:List aF)=(u0::u1::aB (Y ⟨b2,0,O⟩)::u3::u4::u5::u6::u7::u8::J so sn sc::u10::u11::aB (Y ⟨b12,0,O⟩)::J gQ tn tc::u14::u15::u16::u17::u18::u19::u20::u21::u22::u23::u24::u25::u26::u27::u28::u29::u30::u31::u32::u33::u34::u35::u36::u37::u38::u39::u40::u41::u42::u43::u44::u45::u46::u47::u48::u49::u50::u51::u52::u53::u54::u55::u56::u57::u58::u59::u60::u61::u62::[]).set 9 (v'):=rfl;rw [hs,List.getElem?_set_ne (Ne.symm hj2)];exact (ka j hj2).trans ((kp j (nd j fun i hi h=>by have:=(by decide:∀ i,i<6->54<=[54,55,56,57,58,59].getD i 0/\[54,55,56,57,58,59].getD i 0<60) i hi; omega)).trans aS)
  obtain⟨mid,hmid,hfr⟩:=Rg.fQ (a:=a.put (Y 9) v') 54 6 (by simp [aU,df]) (by simp [aU,sz']) (by simp) qF;rw [hfr]
  match mid,hmid with
  | [v54,v55,v56,v57,v58,v59],_ =>
   exact HQ.out x2 _ _ _ _ _ _ _ hx ho hk hbl
theorem CG {b:Br} (t x:Id) (f:Int) (R:En->Prop) (hR:∀ e,e.tree=t->R e->R (Vd e)) (h:∀ e∈b.ent,R e):(∀ e∈(takeB b t x f).1.ent,R e)/\∀ e∈(takeB b t x f).2.1,R e:=by
 unfold takeB
 split
 ·exact⟨h,fun e he=>by simp at he⟩
 ·split
  ·exact⟨h,fun e he=>by simp at he⟩
  ·split
   ·exact⟨h,fun e he=>by simp at he⟩
   ·split
    ·exact⟨fun e he=>h e (qL he),fun e he=>by simp at he⟩
    ·exact wH R hR (fun e he=>h e (qL he)) _
theorem CJ (b:Br) (t x:Id) (f:Int):(jJ b t x f).2.length<=b.ent.length+1:=by
 unfold jJ;have h:=(sK b t x f).2
 split
 ·simp
 ·split
  ·simp
  ·rw [aK,aC];simp;omega
def CK (x:Id) (s:Br×List Ou) (t:Id):Br×List Ou:=((jJ s.1 t x (-1)).1,s.2++(jJ s.1 t x (-1)).2)
def um (b:Br) (x:Id):List Ow:=b.own.filter fun o=>decide (o.id≠x)
def jm (b:Br) (x:Id) (k:Nat):Br×List Ou:=((b.dL.map Ad.id).take k).foldl (CK x) ({ b with own:=um b x },[])
def iD (b:Br) (x:Id):Br×List Ou:=if (um b x).length=b.own.length then (b,[]) else jm b x b.dL.length
theorem kQ (b:Br) (x:Id) {k:Nat} {a:Ad} (h:b.dL[k]?=Y a):jm b x (k+1)=CK x (jm b x k) a.id:=by
 unfold jm;rw [List.take_add_one,aN,h,List.foldl_append]
 rfl
structure UnI (b0 b:Br) (o:List Ow):Prop where
 me:b.me=b0.me
 near:b.near=b0.near
 dL:b.dL=b0.dL
 seen:b.seen=b0.seen
 own:b.own=o
 len:b.ent.length<=b0.ent.length
theorem UnI.drop {b0 b:Br} {o:List Ow} (h:UnI b0 b o) (t x:Id) (f:Int):UnI b0 (jJ b t x f).1 o:=by
 rw [iR];obtain⟨h1,h2,h3,h4,h5⟩:=jl b t x f;exact⟨h3.trans h.me,h2.trans h.near,h1.trans h.dL,h4.trans h.seen,h5.trans h.own,aH (sK b t x f).1 h.len⟩
theorem pW (b:Br) (x:Id):∀ k,k<=b.dL.length->UnI b (jm b x k).1 (um b x)/\(jm b x k).2.length<=k * (b.ent.length+1)
 | 0,_=>⟨⟨rfl,rfl,rfl,rfl,rfl,ay _⟩,by simp [jm]⟩
 | k+1,hk=>by
  obtain⟨a,ha⟩:∃ a,b.dL[k]?=Y a:=⟨_,ah hk⟩;obtain⟨h1,h2⟩:=pW b x k (by omega);rw [kQ b x ha];refine⟨h1.drop _ _ _,?_⟩;show ((jm b x k).2++(jJ (jm b x k).1 a.id x (-1)).2).length<=_;have h3:=CJ (jm b x k).1 a.id x (-1);have h4:=h1.len;rw [aK,Nat.add_mul];omega
theorem qM (b:Br) (x:Id) (R:En->Prop) (hR:∀ e,R e->R (Vd e)) (h:∀ e∈b.ent,R e):∀ k,k<=b.dL.length->∀ e∈(jm b x k).1.ent,R e
 | 0,_=>h
 | k+1,hk=>by
  obtain⟨a,ha⟩:∃ a,b.dL[k]?=Y a:=⟨_,ah hk⟩;rw [kQ b x ha];show ∀ e∈(jJ _ _ _ _).1.ent,R e;rw [iR];exact (CG _ _ _ R (fun e _=>hR e) (qM b x R hR h k (by omega))).1
theorem zh {W W':aA} {k:Nat} {me:Int} {s1 s2 s3 s4 s5:Sl} {l:List nH} {m:List Ou} (h:dX (rQ W) l m) (hb:dG W k (iY me s1 s2 s3 s4 s5) 33) (hk:∀ j,j<W.heap.size->j≠k->W'.heap[j]?=W.heap[j]?):dX (rQ W') l m :=
 h.mono fun _ _ hx=>⟨hx.1,hx.2.1,hx.2.2.1,hx.2.2.2.1,gK Bh hx.2.2.2.2.1 hk (nk hb (nu me s1 s2 s3 s4 s5)),hx.2.2.2.2.2⟩
def keepW (x:Id) (o:qy):Bool:=decide ((o.1,o.2.1)≠x)
theorem Gz (b:Br) (nv av sv ev ov:Sl) (x:Id) (w:aA) (h:gZ w b nv av sv ev ov) (l2:b.dL.length<=900) (l3:b.ent.length<=900) (l4:b.own.length<=900) (hok:∀ e∈b.ent,dM e.p) (hkn:∀ e∈b.ent,e.tree∈b.dL.map Ad.id) :
  bf X 28 #[nG b.me nv av sv ev ov,lZ x] w fun e w'=>(∃ ev' Xw lo:Sl,e=aI (.tuple #[nG b.me nv av sv ev' Xw,dK lo])/\gZ w' (iD b x).1 nv av sv ev' Xw/\kK w' lo (iD b x).2)/\Below w.heap.size w w':=by
 obtain⟨no,nn,nc⟩:=nv;obtain⟨ao,an,ac⟩:=av;obtain⟨so,sn,sc⟩:=sv;obtain⟨eo,en,ec⟩:=ev;obtain⟨oo,dN,oc⟩:=ov;obtain⟨c,d⟩:=x;obtain⟨ws,hw1,hw2⟩:=h.own;obtain⟨q1,q2,hq⟩:=hw1.len;obtain⟨rfl,rfl,rfl⟩:oo=q1/\dN=ws.length/\oc=q2:=by
  have:J oo dN oc=J q1 ws.length q2:=hq;simpa using this
 have HH:=L h;have L2:=L l2;have L3:=L l3;have WL:=L (show ws.length<=900 from by rw [hw2.len]; exact l4);have HW2:=L hw2;have OK:=L hok;have KN:=L hkn;obtain⟨dN,hon⟩:∃ n,n=ws.length:=⟨_,rfl⟩;simp only [<- hon] at HH hw1 ⊢;have N5:=L hon;obtain⟨h0,h1,h2,h3⟩:=gL w #[U V b.me,J no nn nc,J ao an ac,J so sn sc,J eo en ec,J oo dN oc] #[U V c,U V d] #[U V 0,J O 0 0,J O 0 0,J O 0 0,J O 0 0,J O 0 0] 33 38 33;obtain⟨me,hme⟩:∃ me,me=b.me:=⟨_,rfl⟩;simp only [<- hme] at h0 h1 h2 h3 ⊢;have gB:=L (h0);have aam:=L (h1);have VX:=L (h2);have aan:=L (h3);have JC:=L (hw1.on h0);have ME:=L hme;clear h0 h1 h2 h3 h l2 l3 l4 hme hok hkn hw1 hw2 hq hon;show bf X 28 #[bF #[U V me,J no nn nc,J ao an ac,J so sn sc,J eo en ec,J oo dN oc],bF #[U V c,U V d]] w _;go_enter Tryz.func28,Tryz.ntmps28;go_upto_region 1 with fail;generalize (((w.alloc (Z #[U V me,J no nn nc,J ao an ac,J so sn sc,J eo en ec,J oo dN oc] 33)).alloc (Z #[U V c,U V d] 38)).alloc (Z #[U V 0,J O 0 0,J O 0 0,J O 0 0,J O 0 0,J O 0 0] 33))=W at *;have W4:=L (show w.heap.size+3<=W.heap.size from by have:=aan.out.lt; omega);obtain⟨x0,x1,x2,x3,x4,x5⟩:=aam.out.eZ;go_wp2_with fail;clear x0 x1 x2 x3 x4 x5
 go_loopw [6,17] (fun v i wr=>∃ q:Nat,q<=dN/\i=U V q/\Below W.heap.size W wr/\pE wr W.heap.size v ((ws.take q).filter (keepW (c,d)))) (fun _ i _=>dN-(intOf i).toNat)
 case atStart=>exact⟨0,aM _,rfl,ak _ _,fF _ _⟩
 case round =>
  obtain⟨q,hq,rfl,hbe,hown⟩:=hrel;have BE:=L hbe;have OE:=L hown;clear hbe hown;have l9:dN<=900:=by rw [N5.out]; exact WL.out
  by_cases hlt:q<dN
  ·have hlt':(q:Int)<(dN:Int):=by omega
   have hw:IntKind.i64.wrap ((q:Int)+1)=(q:Int)+1:=IntWalk.i64_in _ (by omega);obtain⟨z,hz⟩:∃ z,ws[q]?=Y z:=⟨_,ah (by rw [<- N5.out]; exact hlt)⟩;obtain⟨p,ix,px⟩:=elW JC.out rfl N5.out.symm hz;obtain⟨p0,p1,p2⟩:=px wr BE.out;have FS:=L (rJ ws q z (keepW (c,d)) hz);obtain⟨y1,y2,⟨yo,yn,yc⟩⟩:=z;simp only at p0 p1 p2;clear px hz;go_upto_region 5 with fail;clear p0 p1 p2 ix;have NN:=fT wr (Z #[U V y1,U V y2,J yo yn yc] 61);have XE:=L (dI wr #[U V y1,U V y2,J yo yn yc] 61);have Rn:=L (BE.out.trans (NN.mono BE.out.size));have MW:=L (dh OE.out NN);clear BE OE NN;generalize wr.alloc (Z #[U V y1,U V y2,J yo yn yc] 61)=wa at *;obtain⟨e0_,e1_,e2_⟩:=XE.out.cs3;have y0:=(VX.out.on Rn.out).cell 0;have y1_:=(VX.out.on Rn.out).cell 1;simp only [aS,List.getElem?_cons_zero,List.getElem?_cons_succ] at y0 y1_;obtain⟨r,hr⟩:∃ r,(!(y1 == c && y2 == d))=r:=⟨_,rfl⟩;have he:=Vo y1 y2 c d r hr;have KW:=L (show keepW (c,d) (y1,y2,(yo,yn,yc))=r by
    rw [<- hr];unfold keepW;by_cases h1:y1=c <;> by_cases h2:y2=d <;> simp [h1,h2])
   clear hr;cases r
   ·go_wp2_with fail
    go_roundw
    case rel=>exact⟨q+1,hlt,by go_num,Rn.out,by rw [FS.out,KW.out]; simpa using MW.out⟩
    case measure=>simp [intOf]; omega
   ·have hl:=gH okW wa [((y1,y2,(yo,yn,yc)):qy)] 1 rfl (by simp) #[U V y1,U V y2,J yo yn yc] (by rfl);have NB:=fT wa (Z #[U V y1,U V y2,J yo yn yc] 61);obtain⟨v',x5,q2,o2,g2⟩:=fO okW W.heap.size (dh MW.out NB) (Row.dn hl) (by have h1:=List.length_filter_le (keepW (c,d)) (ws.take q); rw [List.length_take] at h1; omega) (by simp) (aH Rn.out.size NB.size) 31;have q2:(aG #[31,31] 31 #[u6,J (Y ⟨wa.heap.size,0,O⟩) 1 1]).run X (wa.alloc (Z #[U V y1,U V y2,J yo yn yc] 61))=.ok v' x5:=q2;have BX:=L ((Rn.out.trans (NB.mono Rn.out.size)).grown g2 (aH Rn.out.size NB.size) (fun j hj=>((dh MW.out NB).lt j hj).1));have O2:=L o2;clear hl NB o2 g2;go_wp2_with (first | (at_builtin; refine wpList_append_run rfl _ _ 31 rfl rfl rfl q2 ?_) | fail)
    go_roundw
    case rel=>exact⟨q+1,hlt,by go_num,BX.out,by rw [FS.out,KW.out]; simpa using O2.out⟩
    case measure=>simp [intOf]; omega
  ·obtain rfl:dN=q:=by omega
   have et:ws.take dN=ws:=aR (by have:=N5.out; omega);rw [et] at OE;clear et;have FI:=L (show dX (Az w) (ws.filter (keepW (c,d))) (um b (c,d)) from HW2.out.fil _ _ fun a b h=>by unfold keepW; rw [h.1]);generalize ws.filter (keepW (c,d))=ls at *;obtain⟨la,lc,hlv⟩:=(Row.dn OE.out).len;obtain⟨ln,hln⟩:∃ n,n=ls.length:=⟨_,rfl⟩;rw [<- hln] at hlv;subst hlv;have LN:=L hln;clear hln;have LE:=L (show (um b (c,d)).length=ln from by rw [LN.out,FI.out.len]);have LO:=L (show b.own.length=dN from by rw [<- HW2.out.len,N5.out]);have iO:=L (gB.out.trans (BE.out.mono gB.out.size));have RA:=L (aam.out.on BE.out);have ru:=L (VX.out.on BE.out);have ny:=L (aan.out.on BE.out);have Ec:=L (JC.out.on BE.out);clear gB aam VX aan JC;obtain⟨x0,x1,x2,x3,x4,x5⟩:=RA.out.eZ;by_cases hll:ln=dN
   ·have hq1:((ln:Int) == (dN:Int))=bE:=by simp [hll]
    have HI:=L (HH.out.on iO.out);obtain⟨r0,r1,r2,r3,r4,r5⟩:=ny.out.eZ;obtain⟨Cm,Co,Cq,Cr,Ct,Cu⟩:=ny.out.kg;have zz:=ny.out.lt;have GG:=L (dH ny.out (U V me) (J no nn nc) (J ao an ac) (J so sn sc) (J eo en ec) (J oo dN oc));have BL:=L (dw (b:=w.heap.size+1+1) iO.out (by omega) (U V me) (J no nn nc) (J ao an ac) (J so sn sc) (J eo en ec) (J oo dN oc));have HK:=L (fun j (_:j<wr.heap.size) (hj:j≠w.heap.size+1+1)=>dB wr (w.heap.size+1+1) (U V me) (J no nn nc) (J ao an ac) (J so sn sc) (J eo en ec) (J oo dN oc) j hj);have HC:=L (eT (s1:=(O,0,0)) (s2:=(O,0,0)) (s3:=(O,0,0)) (s4:=(O,0,0)) (s5:=(O,0,0)) HI.out ny.out HK.out (HH.out.near.on BL.out));go_wp2_with fail;obtain⟨v0,v1,v2,v3,v4,v5⟩:=GG.out.eZ;refine aQ (v:=.tuple #[bF #[U V me,J no nn nc,J ao an ac,J so sn sc,J eo en ec,J oo dN oc],J O 0 0]) (by simp [results,bn,go_sem,v0,v1,v2,v3,v4,v5]) rfl ?_;have hd:iD b (c,d)=(b,[]):=by unfold iD; rw [if_pos (by rw [LE.out,LO.out]; exact hll)]
    rw [hd];exact⟨⟨(eo,en,ec),(oo,dN,oc),(O,0,0),rfl,HC.out,pJ _⟩,BL.out⟩
   ·have hq1:((ln:Int) == (dN:Int))=aD:=by simp; omega
    have DB:=L (show iD b (c,d)=jm b (c,d) b.dL.length from by unfold iD; rw [if_neg (by rw [LE.out,LO.out]; exact hll)]);have f5:=RA.out.fr 5;have zz:=RA.out.lt;go_upto_region 11 with fail;clear x0 x1 x2 x3 x4 x5;have B2:=L (iO.out.setCell (p:=⟨w.heap.size,5,O⟩) (ay _) (J la ln lc));have X2b:=dO (k:=5) RA.out (J la ln lc);simp only [List.setIfInBounds_toArray,List.set_cons_zero,List.set_cons_succ] at X2b;have X3b:dG _ _ _ _:=(aL wr ⟨w.heap.size,5,O⟩ (J la ln lc) _ (show w.heap.size+1≠w.heap.size by omega)).trans ru.out;have X4b:dG _ _ _ _:=(aL wr ⟨w.heap.size,5,O⟩ (J la ln lc) _ (show w.heap.size+1+1≠w.heap.size by omega)).trans ny.out;have OL:=L (dW OE.out w.heap.size 5 (J la ln lc) (by have:=W4.out; omega));have BS:=L (show gZ _ { b with own:=um b (c,d) } (no,nn,nc) (ao,an,ac) (so,sn,sc) (eo,en,ec) (la,ln,lc) from ⟨HH.out.near.on B2.out,(HH.out.on B2.out).dL,(HH.out.on B2.out).seen,(HH.out.on B2.out).ent,⟨ls,Row.dn OL.out,FI.out.mono fun _ _ h=>h.on B2.out⟩⟩);clear zz f5 OL OE BE iO RA ru ny Ec;generalize wr.setCell ⟨w.heap.size,5,O⟩ (J la ln lc)=w2 at *;have lg:=L (B2.out);have aao:=L (X2b);have om:=L (X3b);have oH:=L (X4b);clear B2 X2b X3b X4b;obtain⟨ad0,ha1,ha2⟩:=BS.out.dL;obtain⟨q1,q2,hqv⟩:=ha1.len;obtain rfl:an=b.dL.length:=by have h1:(J ao an ac)=J q1 ad0.length q2:=hqv; have h2:an=ad0.length:=(by simpa using congrArg (fun v=>match v with|Value.slice _ n _=>n|_=>0) h1); rw [h2,ha2.len]
    clear hqv ha1 ha2;obtain⟨an,han⟩:∃ n,n=b.dL.length:=⟨_,rfl⟩;have AN:=L (show b.dL.length<=900 from L2.out);obtain⟨x0,x1,x2,x3,x4,x5⟩:=aao.out.eZ;go_wp2_with fail;clear x0 x1 x2 x3 x4 x5
    go_loopw [9,42] (fun v i wr=>∃ (k:Nat) (ea:Option bD) (gT gU:Nat) (ta:Option bD) (tn tc:Nat),k<=b.dL.length/\i=U V k/\v=J ta tn tc/\Below w.heap.size w wr/\dG wr w.heap.size #[U V me,J no nn nc,J ao b.dL.length ac,J so sn sc,J ea gT gU,J la ln lc] 33/\dG wr (w.heap.size+1) #[U V c,U V d] 38/\dG wr (w.heap.size+1+1) #[U V 0,J O 0 0,J O 0 0,J O 0 0,J O 0 0,J O 0 0] 33/\gZ wr (jm b (c,d) k).1 (no,nn,nc) (ao,b.dL.length,ac) (so,sn,sc) (ea,gT,gU) (la,ln,lc)/\kK wr (ta,tn,tc) (jm b (c,d) k).2) (fun _ i _=>b.dL.length-(intOf i).toNat)
    case atStart=>exact⟨0,eo,en,ec,O,0,0,aM _,rfl,rfl,lg.out,aao.out,om.out,oH.out,BS.out,pJ _⟩
    case round =>
     clear BS lg aao om oH;obtain⟨k,ea,gT,gU,ta,tn,tc,hk,rfl,rfl,hgb,hx2,hx3,hx4,hbr,hou⟩:=hrel;have xq:=L (hgb);have RD:=L (hx2);have XP:=L (hx3);have xu:=L (hx4);have KZ:=L (hbr);have RF:=L (hou);clear hgb hx2 hx3 hx4 hbr hou;have UK:=L (pW b (c,d) k hk);have l9:=AN.out;by_cases hlt:k<b.dL.length
     ·have hlt':(k:Int)<(b.dL.length:Int):=by omega
      have hw:IntKind.i64.wrap ((k:Int)+1)=(k:Int)+1:=IntWalk.i64_in _ (by omega);obtain⟨a,hak⟩:∃ a,b.dL[k]?=Y a:=⟨_,ah hlt⟩;have US:=L (kQ b (c,d) hak);have PK:=L (qM b (c,d) (fun e=>dM e.p) (fun _ h=>h) OK.out k hk);have TKN:=L (qM b (c,d) (fun e=>e.tree∈b.dL.map Ad.id) (fun _ h=>h) KN.out k hk);obtain⟨ad,xK,uT⟩:=KZ.out.dL;rw [UK.out.1.dL] at uT;obtain⟨z,hz1,hz2⟩:=uT.at k a hak;obtain⟨p,ix,px⟩:=PI xK rfl (by rw [uT.len]) hz1;obtain⟨p0,p1,p2,p3⟩:=px wr (ak _ _);obtain⟨z1,z2,⟨z3,z4,z5⟩,z6⟩:=z;simp only at p0 p1 p2 p3;have ZI:=L (show a.id=(z1,z2) from hz2.1.symm);clear px hz1 hz2 xK uT hak;go_upto_region 15 with fail;clear p0 p1 p2 p3 ix;have NN:=fT wr (Z #[U V z1,U V z2,J z3 z4 z5,U V z6] 53);have RG:=L (xq.out.trans (NN.mono xq.out.size));have RI:=L (RD.out.on NN);have RJ:=L (XP.out.on NN);have XQ:=L (xu.out.on NN);have RN:=L (KZ.out.on NN);have XR:=L (RF.out.on NN);clear xq RD XP xu KZ RF;clear NN;have JD:=L (dI wr #[U V z1,U V z2,J z3 z4 z5,U V z6] 53);generalize wr.alloc (Z #[U V z1,U V z2,J z3 z4 z5,U V z6] 53)=wa at *;have DP:=L (Cy (jm b (c,d) k).1 (no,nn,nc) (ao,b.dL.length,ac) (so,sn,sc) (ea,gT,gU) (la,ln,lc) (z1,z2) (c,d) (-1) wa RN.out (by rw [UK.out.1.dL]; exact AN.out) (aH UK.out.1.len L3.out) PK.out (by rw [UK.out.1.dL]; exact TKN.out));rw [UK.out.1.me,<- ME.out] at DP;obtain⟨x0,x1,x2,x3,x4,x5⟩:=RI.out.eZ;obtain⟨y0,y1⟩:=RJ.out.cs2;obtain⟨zc0,zc1,zc2,zc3⟩:=JD.out.IQ;rw [ZI.out] at US;have UK2:=L (pW b (c,d) (k+1) hlt);rw [US.out] at UK2;go_wp2_with fail;refine DP.out.mono ?_;rintro e1 w1 ⟨⟨⟨mQ,qz,qA⟩,⟨ta2,tn2,tc2⟩,rfl,hbr,hou⟩,hb⟩;clear DP;clear x0 x1 x2 x3 x4 x5 y0 y1 zc0 zc1 zc2 zc3;have RO:=L (RG.out.trans (hb.mono RG.out.size));have XT:=L (RI.out.on hb);have XV:=L (RJ.out.on hb);have XW:=L (XQ.out.on hb);have acu:=L (RN.out.on hb);have XY:=L (XR.out.on hb);have aap:=L (JD.out.on hb);clear RG RI RJ XQ RN XR JD;have BR2:=L hbr;have OU2:=L hou;clear hb hbr hou acu aap;go_upto_region 16 with fail;have BR3:=L (BR2.out.on (fT w1 (Z #[U V me,J no nn nc,J ao b.dL.length ac,J so sn sc,J mQ qz qA,J la ln lc] 33)));have OU3:=L (OU2.out.on (fT w1 (Z #[U V me,J no nn nc,J ao b.dL.length ac,J so sn sc,J mQ qz qA,J la ln lc] 33)));clear BR2 OU2;have NN:=fT w1 (Z #[U V me,J no nn nc,J ao b.dL.length ac,J so sn sc,J mQ qz qA,J la ln lc] 33);have acv:=L (RO.out.trans (NN.mono RO.out.size));have K6:=L (XT.out.on NN);have XZ:=L (XV.out.on NN);have X0:=L (XW.out.on NN);have acw:=L (XY.out.on NN);clear RO XT XV XW XY;clear NN;have aaq:=L (dI w1 #[U V me,J no nn nc,J ao b.dL.length ac,J so sn sc,J mQ qz qA,J la ln lc] 33);generalize w1.alloc (Z #[U V me,J no nn nc,J ao b.dL.length ac,J so sn sc,J mQ qz qA,J la ln lc] 33)=wb at *;obtain⟨lo,hlo1,hlo2⟩:=acw.out;obtain⟨ls2,acy,aar⟩:=OU3.out;have LL:=UK.out.2;have LD:=CJ (jm b (c,d) k).1 (z1,z2) (c,d) (-1);have LU:=UK.out.1.len;have l3:=L3.out;have LM:k * (b.ent.length+1)<=900 * 901:=bg (by omega) (by omega);refine acs _ wb w.heap.size w1.heap.size me no ao so mQ la nn nc b.dL.length ac sn sc qz qA ln lc ta ta2 tn tc tn2 tc2 lo ls2 _ _ _ _ _ _ _ _ _ _ _ _ _ _ _ _ _ _ _ _ _ _ _ _ _ _ _ _ _ _ _ _ _ _ _ _ _ _ _ _ _ _ _ _ _ _ _ _ _ _ _ _ _ _ _ _ _ _ _ _ _ _ _ _ _ K6.out aaq.out hlo1 acy (by rw [hlo2.len]; omega) (by rw [aar.len]; omega) ?_;intro x w9 v54 v55 v56 v57 v58 v59 hbx hown hblk hbl;have GX:=L (acv.out.trans (hbl _ (ay _)));have Y2:=L hbx;have Y3:=L (show dG _ _ _ _ from (hblk _ XZ.out.lt (by omega)).trans XZ.out);have Y4:=L (show dG _ _ _ _ from (hblk _ X0.out.lt (by omega)).trans X0.out);have BRX:=L (eT (s1:=(no,nn,nc)) (s2:=(ao,b.dL.length,ac)) (s3:=(so,sn,sc)) (s4:=(ea,gT,gU)) (s5:=(la,ln,lc)) BR3.out K6.out hblk (by rw [show (jJ (jm b (c,d) k).1 (z1,z2) (c,d) (-1)).1.near=b.near from UK2.out.1.near]; exact HH.out.near.on GX.out));have OA:=L ((zh (s1:=(no,nn,nc)) (s2:=(ao,b.dL.length,ac)) (s3:=(so,sn,sc)) (s4:=(ea,gT,gU)) (s5:=(la,ln,lc)) hlo2 K6.out hblk).append (zh (s1:=(no,nn,nc)) (s2:=(ao,b.dL.length,ac)) (s3:=(so,sn,sc)) (s4:=(ea,gT,gU)) (s5:=(la,ln,lc)) aar K6.out hblk));obtain⟨ra,rc,hrv⟩:=(Row.dn hown).len;have RR:=L (Row.dn hown);rw [hrv] at RR;rw [hrv];clear hbx hown hblk hbl hlo1 hlo2 acy aar hrv BR3 OU3;go_wp2_with fail
      go_roundw
      case rel=>exact⟨k+1,mQ,qz,qA,ra,_,rc,hlt,by go_num,rfl,GX.out,Y2.out,Y3.out,Y4.out,by rw [US.out]; exact BRX.out,by rw [US.out]; exact⟨_,RR.out,OA.out⟩⟩
      case measure=>simp [intOf]; omega
     ·obtain rfl:k=b.dL.length:=by omega
      obtain⟨x0,x1,x2,x3,x4,x5⟩:=RD.out.eZ;obtain⟨r0,r1,r2,r3,r4,r5⟩:=xu.out.eZ;obtain⟨Cm,Co,Cq,Cr,Ct,Cu⟩:=xu.out.kg;have zz:=xu.out.lt;have GG:=L (dH xu.out (U V me) (J no nn nc) (J ao b.dL.length ac) (J so sn sc) (J ea gT gU) (J la ln lc));have BL:=L (dw (b:=w.heap.size+1+1) xq.out (by omega) (U V me) (J no nn nc) (J ao b.dL.length ac) (J so sn sc) (J ea gT gU) (J la ln lc));have HK:=L (fun j (_:j<wr.heap.size) (hj:j≠w.heap.size+1+1)=>dB wr (w.heap.size+1+1) (U V me) (J no nn nc) (J ao b.dL.length ac) (J so sn sc) (J ea gT gU) (J la ln lc) j hj);have HC:=L (eT (s1:=(O,0,0)) (s2:=(O,0,0)) (s3:=(O,0,0)) (s4:=(O,0,0)) (s5:=(O,0,0)) KZ.out xu.out HK.out (by rw [UK.out.1.near]; exact HH.out.near.on BL.out));have HO:=L (iN (s1:=(O,0,0)) (s2:=(O,0,0)) (s3:=(O,0,0)) (s4:=(O,0,0)) (s5:=(O,0,0)) RF.out xu.out HK.out);go_wp2_with fail;obtain⟨v0,v1,v2,v3,v4,v5⟩:=GG.out.eZ;refine aQ (v:=.tuple #[bF #[U V me,J no nn nc,J ao b.dL.length ac,J so sn sc,J ea gT gU,J la ln lc],J ta tn tc]) (by simp [results,bn,go_sem,v0,v1,v2,v3,v4,v5]) rfl ?_;rw [DB.out];exact⟨⟨(ea,gT,gU),(la,ln,lc),(ta,tn,tc),rfl,HC.out,HO.out⟩,BL.out⟩
end Bk
namespace Va
open Go.RowKit
end Va
namespace Av
open Go.RowKit Rw YtkcfgbddlpomgaaGreat.Nm Pr Bk
theorem RQ {W:aA} {b:Nat} {c:iB} (h:dG W b (iE c).toArray 68):jX W (J (Y ⟨b,0,O⟩) 1 1) [c] :=
 Or.inr ⟨⟨b,0,O⟩,1,rfl,by simp,by decide,uE h (by simp [EN])⟩
def zi (B:Nat) (l:List iB) (k:Nat) (c:iB) (vv:aF) (W:aA) (e:Ending) (w':aA):Prop:=∃ v',e=aI v'/\jw w' B v' (l.take k++c::l.drop k)/\Below B W w'/\(∀ j,j<W.heap.size->Y j≠vv.ownBlock->w'.heap[j]?=W.heap[j]?)
theorem GD (B:Nat) (v:aF) (l:List iB) (c:iB) (b:Nat) (W:aA) (ho:jw W B v l) (hx:dG W b (iE c).toArray 68) (hl:l.length<=900) (hB:B<=W.heap.size) :
  bf X 51 #[v,U V (l.length:Nat),J (Y ⟨b,0,O⟩) 1 1] W (zi B l l.length c v W):=by
 obtain⟨v',w',hr,ho2,hg⟩:=fO nR B ho (RQ hx) (by omega) (by simp) hB 30;have hr:(aG #[30,30] 30 #[v,J (Y ⟨b,0,O⟩) 1 1]).run X W=.ok v' w':=hr;have Q:=L (show zi B l l.length c v W (aI v') w' from ⟨v',rfl,by rw [aR (ay _),List.drop_of_length_le (ay _)]; exact ho2,(ak B W).grown hg hB (fun j hj=>(ho.lt j hj).1),fun j hj hne=>hg.block j hj hne⟩);obtain⟨sx,hs,_⟩:=oN nR (Row.dn ho) l.length (ay _);have hs:∀ w,(au 30 v (Y (U V l.length)) O O).run X w=.ok sx w:=hs;obtain⟨ao,ac,rfl⟩:=(Row.dn ho).len;clear ho ho2 hg;generalize hn:l.length=n at *;clear hn;go_enter aY,aW;go_wp2_with (first | (at_builtin; refine wpList_append_run rfl _ _ 30 rfl rfl rfl hr ?_) | fail);go_ret;exact Q.out
theorem RS (w:aA) (g b k la lb cb:Nat) (cur cs:Array aF) (hb:dG w b cs 68) (hg:dG w g cur 68) (hne:b≠g) (h0:0<cur.size):(callFunc 88 #[J (Y ⟨b,0,O⟩) la 1,J (Y ⟨g,k,O⟩) lb cb]).run X w=.ok (.value (aJ aD)) w:=by
 rw [run_callFunc_extern Tryz.func88 (by kernel_rfl) (by kernel_rfl) (by kernel_rfl) (e:=Extern.SlicesOverlaps.overlaps #[30,30] #[4]) (by kernel_rfl),
  Lib.run_overlaps_apart w 30 4 68 Tryz.underlying30 7 Tryz.sizeOf68 ⟨b,0,O⟩ ⟨g,k,O⟩ la 1 lb cb hne 68 68 cs.size cur.size hb.shape hg.shape (by omega) (hb.fr 0) (hb.fr _)]
 rfl
theorem AY (B g n cap:Nat) (cur:Array aF) (l:List iB) (k:Nat) (c:iB) (b:Nat) (W:aA) (hn:n=l.length) (hBg:B<=g) (hg:dG W g cur 68) (hcm:cap<=bC) (hsz:cur.size=cap * 7) (ht:cur.toList.take (n * 7)=flat EN l) (hx:dG W b (iE c).toArray 68) (hne:b≠g) (hk:k<n) (hroom:n+1<=cap) (hl:n<=900) :
  bf X 51 #[J (Y ⟨g,0,O⟩) n cap,U V k,J (Y ⟨b,0,O⟩) 1 1] W (zi B l k c (J (Y ⟨g,0,O⟩) n cap) W):=by
 obtain⟨R1,R2,r1,r2,ow⟩:=vQ (E:=EN) (l:=l) (k:=k) (cap:=cap) (cur:=cur) (cs:=(iE c).toArray) (c:=c) nR (by omega) (by omega) hsz (by rw [<- hn]; exact ht) g b hne;have hov:=fun lb cb=>RS W g b ((k+1) * 7) 1 lb cb cur (iE c).toArray hx hg hne (by omega);have s0:=jc (E:=EN) nR g k n cap (by omega) (by omega);have s1:=nN (E:=EN) nR ⟨g,0,O⟩ (n+1) n cap (by omega);have s2:=jc (E:=EN) nR g (k+1) (n+1) cap (by omega) (by omega);have s3:=jc (E:=EN) nR g k (n+1) cap (by omega) (by omega);have q1:=r1 W.drew 3 (n+1-(k+1)) (cap-(k+1)) (n+1-k) (cap-k) hg (by omega);have q2:=r2 (W.drew.setRow g R1) 3 (n+1-k) (cap-k) (dG.set (show dG W.drew g cur 68 from hg) R1) (dG.other (show dG W.drew b _ 68 from hx) hne R1) rfl (by omega);have Q:=L (show zi B l k c (J (Y ⟨g,0,O⟩) n cap) W (aI (J (Y ⟨g,0,O⟩) (n+1) cap)) ((W.drew.setRow g R1).setRow g R2) from ⟨_,rfl,by rw [hn]; exact ow _ B hBg hcm (dG.set (dG.set (show dG W.drew g cur 68 from hg) R1) R2),below_setRow (below_setRow (ak B W).drew hBg _) hBg _,fun j hj hne=>(setRow_other _ g j _ (fun e=>hne (by rw [e]; rfl))).trans (setRow_other _ g j _ (fun e=>hne (by rw [e]; rfl)))⟩);clear r1 r2 ow hg ht hx hsz hBg hcm;change ∀ w,(au 30 (J (Y ⟨g,0,O⟩) n cap) (Y (U V k)) O O).run X w=.ok (J (Y ⟨g,k * 7,O⟩) (n-k) (cap-k)) w at s0;change ∀ w,(au 30 (J (Y ⟨g,0,O⟩) n cap) O (Y (U V ((n:Int)+1))) O).run X w=.ok (J (Y ⟨g,0,O⟩) (n+1) cap) w at s1;change ∀ w,(au 30 (J (Y ⟨g,0,O⟩) (n+1) cap) (Y (U V ((k:Int)+1))) O O).run X w=.ok (J (Y ⟨g,(k+1) * 7,O⟩) (n+1-(k+1)) (cap-(k+1))) w at s2;change ∀ w,(au 30 (J (Y ⟨g,0,O⟩) (n+1) cap) (Y (U V k)) O O).run X w=.ok (J (Y ⟨g,k * 7,O⟩) (n+1-k) (cap-k)) w at s3;have e1:((k:Int) == (n:Int))=aD:=by rw [beq_eq_false_iff_ne]; omega
 have e2:decide ((cap:Int)<(n:Int)+1)=aD:=by simp; omega
 change (aP #[30,30] 3 #[J (Y ⟨g,(k+1) * 7,O⟩) (n+1-(k+1)) (cap-(k+1)),J (Y ⟨g,k * 7,O⟩) (n+1-k) (cap-k)]).run X W.drew=.ok (U V ((l.length-k:Nat):Int)) (W.drew.setRow g R1) at q1;change (aP #[30,30] 3 #[J (Y ⟨g,k * 7,O⟩) (n+1-k) (cap-k),J (Y ⟨b,0,O⟩) 1 1]).run X (W.drew.setRow g R1)=.ok (U V 1) ((W.drew.setRow g R1).setRow g R2) at q2;clear hn;go_enter aY,aW;go_wp2_with (first | (simp only [hov]) | fail);clear hov s0 s1 s2 s3;have hw1:IntKind.i64.wrap ((k:Int)+1)=(k:Int)+1:=by rw [aX]; omega
 have hb1:(0:Int)<=(k:Int)+1:=by omega
 have hb0:(k:Int)+1<=(n:Int)+1:=by omega
 have htn:((k:Int)+1).toNat=k+1:=by omega
 have hb2:¬ (cap=k+1):=by omega
 have hb3:(k:Int)<=(n:Int)+1:=by omega
 have hb4:¬ (cap=k):=by omega
 have h81:n+1-(k+1)=n-k:=by omega
 rw [h81] at q1;clear h81
 go_region_law (refine jK rfl (aO 73) (aO 76) 30 rfl (v:=J (Y ⟨g,(k+1) * 7,O⟩) (n-k) (cap-(k+1))) (xv:=J (Y ⟨g,k * 7,O⟩) (n+1-k) (cap-k)) (by simp [bA,aU]) (by simp [bA,aU]) q1 ?_)
 all_goals simp only [Exit.then]
 all_goals apply_assumption
 clear q1 hw1 hb1 hb0 htn hb2 hb3 hb4;have s3:=jc (E:=EN) nR g k (n+1) cap (by omega) (by omega);change ∀ w,(au 30 (J (Y ⟨g,0,O⟩) (n+1) cap) (Y (U V k)) O O).run X w=.ok (J (Y ⟨g,k * 7,O⟩) (n+1-k) (cap-k)) w at s3;go_wp2_with (first | (at_builtin; refine wpList_copy_run rfl _ _ 30 rfl rfl rfl q2 ?_) | fail);go_ret;exact Q.out
theorem Ed (B g n cap:Nat) (cur:Array aF) (l:List iB) (k:Nat) (c:iB) (b:Nat) (W:aA) (hn:n=l.length) (hg:dG W g cur 68) (hcm:cap<=bC) (hnc:n<=cap) (ht:cur.toList.take (n * 7)=flat EN l) (hx:dG W b (iE c).toArray 68) (hk:k<n) (hroom:cap<n+1) (hl:n<=900) (hB:B<=W.heap.size) :
  bf X 51 #[J (Y ⟨g,0,O⟩) n cap,U V k,J (Y ⟨b,0,O⟩) 1 1] W (zi B l k c (J (Y ⟨g,0,O⟩) n cap) W):=by
 have hgw:=hg.lt;have hbw:=hx.lt;obtain⟨G,R1,R2,R3,hG1,hG2,r1,r2,r3,ow⟩:=yE (E:=EN) (l:=l) (k:=k) (cap:=cap) (cur:=cur) (cs:=(iE c).toArray) (c:=c) nR 3 Tryz.underlying3 (by omega) (by omega) (by omega) (by omega) (by rw [<- hn]; exact ht) W g b hg hbw;unfold bC at hcm hG2;have s0:=jc (E:=EN) nR g k n cap (by omega) (by omega);have s1:=nN (E:=EN) nR ⟨g,0,O⟩ k n cap (by omega);have s2:=jc (E:=EN) nR W.heap.size k (n+1) G (by omega) (by omega);have s3:=jc (E:=EN) nR W.heap.size (k+1) (n+1) G (by omega) (by omega);have a1:=r1 30;have n1:=dI W.drew R1 68;have bl:W.drew.heap.size=W.heap.size:=rfl;rw [bl] at n1;have g1:dG (W.drew.alloc (Z R1 68)) g cur 68:=dG.more (show dG W.drew g cur 68 from hg) _;have x1:dG (W.drew.alloc (Z R1 68)) b (iE c).toArray 68:=dG.more (show dG W.drew b _ 68 from hx) _;have q2:=r2 (W.drew.alloc (Z R1 68)) 3 (n+1-k) (G-k) n1 x1 rfl (by omega);have q3:=r3 ((W.drew.alloc (Z R1 68)).setRow W.heap.size R2).drew 3 (n+1-(k+1)) (G-(k+1)) (n-k) (cap-k) (dG.set n1 R2) (dG.other g1 (by omega) R2) (by omega);have Q:=L (show zi B l k c (J (Y ⟨g,0,O⟩) n cap) W (aI (J (Y ⟨W.heap.size,0,O⟩) (n+1) G)) (((W.drew.alloc (Z R1 68)).setRow W.heap.size R2).drew.setRow W.heap.size R3) from ⟨_,rfl,by rw [hn]; exact ow _ B hB (dG.set (dG.set n1 R2) R3),below_setRow (below_setRow ((ak B W).drew.alloc hB _) hB _).drew hB _,fun j hj _=>(setRow_other _ W.heap.size j _ (by omega)).trans ((setRow_other _ W.heap.size j _ (by omega)).trans (Array.getElem?_push_lt hj |>.trans (Array.getElem?_eq_getElem hj).symm))⟩);have l1:l.length+1=n+1:=by rw [hn]
 rw [l1,<- hn] at a1;clear r1 r2 r3 ow hg ht hx g1 x1 n1 bl l1;change ∀ w,(au 30 (J (Y ⟨g,0,O⟩) n cap) (Y (U V k)) O O).run X w=.ok (J (Y ⟨g,k * 7,O⟩) (n-k) (cap-k)) w at s0;change ∀ w,(au 30 (J (Y ⟨g,0,O⟩) n cap) O (Y (U V k)) O).run X w=.ok (J (Y ⟨g,0,O⟩) k cap) w at s1;change ∀ w,(au 30 (J (Y ⟨W.heap.size,0,O⟩) (n+1) G) (Y (U V k)) O O).run X w=.ok (J (Y ⟨W.heap.size,k * 7,O⟩) (n+1-k) (G-k)) w at s2;change ∀ w,(au 30 (J (Y ⟨W.heap.size,0,O⟩) (n+1) G) (Y (U V ((k:Int)+1))) O O).run X w=.ok (J (Y ⟨W.heap.size,(k+1) * 7,O⟩) (n+1-(k+1)) (G-(k+1))) w at s3;change (aG #[30,3] 30 #[J (Y ⟨g,0,O⟩) k cap,U V ((n:Int)+1-k)]).run X W=.ok (J (Y ⟨W.heap.size,0,O⟩) (n+1) G) (W.drew.alloc (Z R1 68)) at a1;change (aP #[30,30] 3 #[J (Y ⟨W.heap.size,k * 7,O⟩) (n+1-k) (G-k),J (Y ⟨b,0,O⟩) 1 1]).run X (W.drew.alloc (Z R1 68))=.ok (U V 1) ((W.drew.alloc (Z R1 68)).setRow W.heap.size R2) at q2;change (aP #[30,30] 3 #[J (Y ⟨W.heap.size,(k+1) * 7,O⟩) (n+1-(k+1)) (G-(k+1)),J (Y ⟨g,k * 7,O⟩) (n-k) (cap-k)]).run X ((W.drew.alloc (Z R1 68)).setRow W.heap.size R2).drew=.ok (U V ((l.length-k:Nat):Int)) (((W.drew.alloc (Z R1 68)).setRow W.heap.size R2).drew.setRow W.heap.size R3) at q3;have e1:((k:Int) == (n:Int))=aD:=by rw [beq_eq_false_iff_ne]; omega
 have e2:decide ((cap:Int)<(n:Int)+1)=bE:=by simp; omega
 have hGn:n+1<=G:=by omega
 clear hn;generalize W.heap.size=N at *;generalize W.drew.alloc (Z R1 68)=W1 at *;generalize W1.setRow N R2=W2 at *;go_enter aY,aW;go_wp2_with (first | (at_builtin; refine kI rfl _ _ 30 3 rfl rfl rfl a1 ?_) | (at_builtin; refine wpList_copy_run rfl _ _ 30 rfl rfl rfl q2 ?_) | fail);clear a1 q2 s0 s1 s2 s3;have hw1:IntKind.i64.wrap ((k:Int)+1)=(k:Int)+1:=by rw [aX]; omega
 have hb1:(0:Int)<=(k:Int)+1:=by omega
 have hb0:(k:Int)+1<=(n:Int)+1:=by omega
 have htn:((k:Int)+1).toNat=k+1:=by omega
 have hb2:¬ (G=k+1):=by omega
 have hb3:(k:Int)<=(n:Int):=by omega
 have hb4:¬ (cap=k):=by omega
 have h81:n+1-(k+1)=n-k:=by omega
 rw [h81] at q3;clear h81
 go_region_law (refine jK rfl (aO 50) (aO 53) 30 rfl (v:=J (Y ⟨N,(k+1) * 7,O⟩) (n-k) (G-(k+1))) (xv:=J (Y ⟨g,k * 7,O⟩) (n-k) (cap-k)) (by simp [bA,aU]) (by simp [bA,aU]) q3 ?_)
 all_goals simp only [Exit.then]
 all_goals apply_assumption
 go_wp2;go_ret;exact Q.out
theorem xA (B:Nat) (v:aF) (l:List iB) (k:Nat) (c:iB) (b:Nat) (W:aA) (ho:jw W B v l) (hx:dG W b (iE c).toArray 68) (hne:v.ownBlock≠Y b) (hk:k<=l.length) (hl:l.length<=900) (hB:B<=W.heap.size) :
  bf X 51 #[v,U V k,J (Y ⟨b,0,O⟩) 1 1] W (zi B l k c v W):=by
 rcases aV k l.length with h|h
 ·rcases iP ho with⟨_,h2⟩|⟨g,cap,cur,rfl,h1,h2,h3,h4,h5,h6⟩
  ·rw [h2] at h; simp at h
  ·rcases aV cap (l.length+1) with h7|h7
   ·exact Ed B g _ cap cur l k c b W rfl h2 h4 h3 h6 hx h h7 hl hB
   ·exact AY B g _ cap cur l k c b W rfl h1 h2 h4 h5 h6 hx (fun e=>hne (by simp [Value.ownBlock,e])) h h7 hl
 ·obtain rfl:k=l.length:=by omega
  exact GD B v l c b W ho hx hl hB
end Av
end Go.Proofs.YtkcfgbddlpomgaaGreat
