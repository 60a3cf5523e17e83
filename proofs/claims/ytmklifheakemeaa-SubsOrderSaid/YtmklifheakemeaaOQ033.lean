/-
  Plain facts on one c. Conditions as told.
-/
import Derived.Test.YtmklifheakemeaaOQ027
import Derived.Test.YtmklifheakemeaaOQ016
set_option maxRecDepth 100000
set_option maxHeartbeats 64000000
open _root_.Bool renaming true->au,and_eq_true->aB,eq_iff_iff->aF,false->aG
open _root_.Go renaming World->ay,Value->aC
open Go.IntKind renaming i64->X
open Go.Lib renaming hid->D
open Go.Obj renaming cells->Y
open Go.Region renaming binds->aj
open Go.Value renaming string->J,int->U,bool->aL
open _root_.List renaming getElem?_eq_getElem->O,length_map->ah,getElem?_eq_some_iff->ak,find?_eq_none->aH,getElem?_map->aJ
open _root_.Nat renaming le_refl->aA,le_trans->aD,lt_of_lt_of_le->aI,zero_le->aK
open _root_.Option renaming some->Z
namespace Go.Proofs.Ytmklifheakemeaa
namespace Rl
open Go.RowKit Pu Pr
def EG (p:List Cn) (n:ByteArray):Option Cn:=p.find? fun c=>decide (c.1=n)
theorem Ci {p:List Cn} {n:ByteArray} {y:Cn} (h:EG p n=Z y):y∈p/\y.1=n:=⟨List.mem_of_find?_eq_some h,by simpa using List.find?_some h⟩
theorem K4 {p:List Cn} {n:ByteArray} {k:Nat} {y:Cn} (hk:p[k]?=Z y) (he:y.1=n) (hn:∀ (j:Nat) (z:Cn),j<k->p[j]?=Z z->z.1≠n):EG p n=Z y:=by
 unfold EG;rw [List.find?_eq_some_iff_getElem];obtain⟨hlt,hy⟩:=ak.1 hk;refine⟨by simpa using he,k,hlt,hy,fun j hj=>?_⟩;have:=hn j p[j] hj (O (by omega));simpa using this
theorem F5 {p:List Cn} {n:ByteArray} (hn:∀ (j:Nat) (z:Cn),j<p.length->p[j]?=Z z->z.1≠n):EG p n=none:=by
 unfold EG;rw [aH];intro x hx;obtain⟨j,hj,e⟩:=List.getElem_of_mem hx;have:=hn j x hj (by rw [O hj,e]);simpa using this
def wM (b:List Cn) (x:Cn):Bool:=match EG b x.1 with
 | some y=>gq y.2 x.2
 | none=>aG
theorem zu {a b:List Cn} (hb:qL b):jA a b=a.all (wM b):=by
 unfold jA
 congr 1
 funext x
 unfold wM;cases hf:EG b x.1 with
 | none =>
  rw [List.any_eq_false];intro y hy;have:=aH.1 hf y hy;simp only [decide_eq_true_eq] at this;simp [this]
 | some y =>
  obtain⟨h1,h2⟩:=Ci hf;rw [aF,List.any_eq_true];constructor
  ·rintro⟨z,hz,h3⟩;simp only [aB,decide_eq_true_eq] at h3;rw [KF hb h1 hz (h2.trans h3.1.symm)];exact h3.2
  ·intro h3;exact⟨y,h1,by simp [h2,h3]⟩
theorem wN {n:ByteArray} {c d k:Kd} (hc:fU c=au) (hd:fU d=au) (h:fV c d=Z k):oq (r5 (n,k)) (r5 (n,d))=gq d c:=by
 obtain⟨k1,k2⟩:=yC c d k hc hd h;rw [aF,tZ];constructor
 ·intro e;have e2:=Jo e;obtain rfl:k=d:=congrArg Prod.snd e2;exact qA k c hd fun v hv=>by rw [k2,aB] at hv; exact hv.1
 ·intro hi;have:k=d:=vQ k d k1 hd fun v=>by
   rw [k2,aF,aB];exact⟨fun h=>h.2,fun h=>⟨lX d c hi v h,h⟩⟩
  rw [this]
theorem wO {c d:Kd} (hd:fU d=au) (h:fV c d=none):gq d c=aG:=by
 rw [Bool.eq_false_iff];intro hi;obtain⟨v,hv⟩:=vP d hd;have:=yD c d h v;rw [hv,lX d c hi v hv] at this;cases this
/-! ### samples -/
/-! ### both together -/
end Rl
namespace Rl
open Go.RowKit Go.Sort Pu Rw Pr Va
abbrev z5:C5:=(⟨#[]⟩,0,0,0,⟨#[]⟩)
def Ju:Option Cn->aC
 | some y=>.tuple #[cv (r5 y),aL au]
 | none=>.tuple #[cv z5,aL aG]
theorem wP (pv:aC) (p:List Cn) (n:ByteArray) (w:ay) (hp:ig w pv (p.map r5)) (_h100:p.length<=100) :
  Calls Try.prog 40 #[pv,J n] w fun e w'=>e=.returned (Ju (EG p n))/\Below w.heap.size w w':=by
 have HP:=D hp;obtain⟨ao,ac,rfl⟩:=hp.len;rw [ah] at HP ⊢;generalize hm:p.length=m at *;have HM:=D hm;clear hp hm;have B0:=D (show Below w.heap.size w (w.alloc (Y #[J ⟨#[]⟩,U X 0,U X 0,U X 0,J ⟨#[]⟩] 56)) from (Below.refl _ _).alloc (aA _) _);have Z0:=D (show dz (w.alloc (Y #[J ⟨#[]⟩,U X 0,U X 0,U X 0,J ⟨#[]⟩] 56)) w.heap.size (cells5 z5).toArray 56 from dI w _ _);go_enter Try.func40,Try.ntmps40;go_wp2;generalize w.alloc (Y #[J ⟨#[]⟩,U X 0,U X 0,U X 0,J ⟨#[]⟩] 56)=w1 at B0 Z0 ⊢
 go_loopw [10] (fun i wr=>∃ k:Nat,k<=m/\i=U X k/\Below w.heap.size w wr/\dz wr w.heap.size (cells5 z5).toArray 56/\∀ (j:Nat) (y:Cn),j<k->p[j]?=Z y->y.1≠n) (fun i _=>m-(intOf i).toNat)
 case atStart=>exact⟨0,aK _,rfl,B0.out,Z0.out,fun j y h=>by omega⟩
 case round =>
  obtain⟨k,hk,rfl,hb,ht,hall⟩:=hrel;have HB:=D hb;have HT:=D ht;have AL:=D hall;clear hb hall ht;by_cases hlt:k<m
  ·obtain⟨⟨xn,xk⟩,hx⟩:∃ x,p[k]?=Z x:=⟨_,O (by rw [HM.out]; exact hlt)⟩;obtain⟨q,ix,px⟩:=Nl (x:=r5 (xn,xk)) HP.out rfl (by rw [ah]; exact HM.out) (by rw [aJ,hx]; rfl);obtain⟨p0,p1,p2,p3,p4⟩:=px _ HB.out;have HX:=D hx;have B4:=D (HB.out.alloc HB.out.size (Y #[J xn,U X (kN xk),U X (ko xk),U X (kr xk),J (kT xk)] 56));have T4:=D (HT.out.more (Y #[J xn,U X (kN xk),U X (ko xk),U X (kr xk),J (kT xk)] 56));clear hx px;simp only [r5] at p0 p1 p2 p3 p4;by_cases he:xn=n
   ·have hn:(xn.toList == n.toList)=au:=by rw [he]; exact beq_self_eq_true _
    have R:=D (K4 HX.out he AL.out);clear he;obtain⟨c0,c1,c2,c3,c4⟩:=gu HT.out;have f0:=HT.out.fr 0;have f1:=HT.out.fr 1;have f2:=HT.out.fr 2;have f3:=HT.out.fr 3;have f4:=HT.out.fr 4;have Oj:=HT.out.lt;simp only at c0 c1 c2 c3 c4;go_wp2;have T5:=(qY HT.out (xn,kN xk,ko xk,kr xk,kT xk)).more (Y #[J xn,U X (kN xk),U X (ko xk),U X (kr xk),J (kT xk)] 56);have B5:=(iF HB.out w.heap.size (aA _) (J xn) (U X (kN xk)) (U X (ko xk)) (U X (kr xk)) (J (kT xk))).alloc (iF HB.out w.heap.size (aA _) (J xn) (U X (kN xk)) (U X (ko xk)) (U X (kr xk)) (J (kT xk))).size (Y #[J xn,U X (kN xk),U X (ko xk),U X (kr xk),J (kT xk)] 56);generalize World.alloc _ (Y #[J xn,U X (kN xk),U X (ko xk),U X (kr xk),J (kT xk)] 56)=w6 at T5 B5 ⊢;obtain⟨d0,d1,d2,d3,d4⟩:=gu T5;simp only at d0 d1 d2 d3 d4;refine bodyPost_ret (v:=Ju (Z (xn,xk))) (by simp [results,Try.results40,go_sem,d0,d1,d2,d3,d4,Ju,r5]) rfl ⟨by rw [R.out],B5⟩
   ·have hn:(xn.toList == n.toList)=aG:=by rw [beq_eq_false_iff_ne]; exact fun h=>he (oN h)
    have HE:=D he;clear he;go_wp2
    go_roundw
    case rel=>exact⟨k+1,by omega,by go_num,B4.out,T4.out,fun j y hj hy=>by
     rcases Nat.lt_or_ge j k with h3|h3
     ·exact AL.out j y h3 hy
     ·obtain rfl:j=k:=by omega
      have e:=HX.out;rw [hy] at e;rw [Option.some.inj e];exact HE.out⟩
    case measure=>simp [intOf]; omega
  ·obtain rfl:k=m:=by omega
   have R:=D (F5 (p:=p) (n:=n) (fun j y hj hy=>AL.out j y (by rw [<- HM.out]; exact hj) hy));obtain⟨c0,c1,c2,c3,c4⟩:=gu HT.out;have f0:=HT.out.fr 0;have f1:=HT.out.fr 1;have f2:=HT.out.fr 2;have f3:=HT.out.fr 3;have f4:=HT.out.fr 4;have Oj:=HT.out.lt;simp only at c0 c1 c2 c3 c4;go_wp2;have T5:=qY HT.out z5;have B5:=iF HB.out w.heap.size (aA _) (J ⟨#[]⟩) (U X 0) (U X 0) (U X 0) (J ⟨#[]⟩);simp only at T5;generalize World.setCell _ _ (J ⟨#[]⟩)=w6 at T5 B5 ⊢;obtain⟨d0,d1,d2,d3,d4⟩:=gu T5;simp only at d0 d1 d2 d3 d4;refine bodyPost_ret (v:=Ju none) (by simp [results,Try.results40,go_sem,d0,d1,d2,d3,d4,Ju]) rfl ⟨by rw [R.out],B5⟩
theorem zw (n:ByteArray) (c d:Kd) (w:ay) (hc:fU c=au) (hd:fU d=au) :
  Calls Try.prog 41 #[cv (r5 (n,c)),cv (r5 (n,d))] w fun e w'=>e=.returned (aL (gq d c))/\Below w.heap.size w w':=by
 obtain⟨ba,bb,hb⟩:=Bf w (r5 (n,c)) (r5 (n,d));have BB:=D bb;have B:=D hb;have CB:=D (Bg (n,c) (n,d) ((w.alloc (Y (cells5 (r5 (n,c))).toArray 56)).alloc (Y (cells5 (r5 (n,d))).toArray 56)) rfl);have WS:=D (fun k (h:fV c d=Z k)=>wN (n:=n) hc hd h);have WN:=D (fun (h:fV c d=none)=>wO hd h);simp only at CB;generalize fV c d=r at *;generalize gq d c=i at *;clear ba bb hb hc hd;simp only [r5] at CB ⊢;go_enter Try.func41,Try.ntmps41;go_wp2_with fail;refine CB.out.mono ?_;rintro e w2 ⟨⟨y,rfl,hy⟩,hb2⟩;have B2:=D (B.out.trans (hb2.mono B.out.size));obtain⟨b0,b1,b2,b3,b4⟩:=gu (BB.out.on hb2);simp only [r5] at b0 b1 b2 b3 b4;have B3:=D (B2.out.alloc B2.out.size (Y #[J y.1,U X y.2.1,U X y.2.2.1,U X y.2.2.2.1,J y.2.2.2.2] 56));have HY:=D hy;have hw2:w.heap.size+1<w2.heap.size:=by have:=hb2.size; simp at this; omega
 clear hb2 CB BB B hy;rcases r with _|k
 ·have E:=D (WN.out rfl);clear WN WS;go_wp2;go_ret;exact⟨fD E.out.symm,B3.out⟩
 ·have E:=D (show oq y (r5 (n,d))=i by rw [HY.out k rfl]; exact WS.out k rfl);obtain⟨y0,y1,y2,y3,y4⟩:=y;clear WN WS HY B3;go_wp2
  all_goals go_ret
  all_goals exact⟨fD (by rw [<- E.out]; simp [oq,r5, *]),B2.out.alloc B2.out.size _⟩
theorem F6 {α:Type} (f:α->Bool) (l:List α) (m:Nat) (h:l.length=m):(l.take m).all f=l.all f:=by rw [<- h,List.take_length]
theorem wQ (pv qv:aC) (p b:List Cn) (w:ay) (hp:ig w pv (p.map r5)) (hl:ig w qv (b.map r5)) (np:NF p) (nb:NF b) :
  Calls Try.prog 15 #[pv,qv] w fun e w'=>e=.returned (aL (jA p b))/\Below w.heap.size w w':=by
 have CO:=D (zu (a:=p) nb.rise);have HP:=D hp;have HL:=D hl;have h5:b.length<=100:=by have:=nb.five; omega
 have GP:=D np.fU;have GB:=D nb.fU;have m5:p.length<=5:=np.five;obtain⟨ao,ac,rfl⟩:=hp.len;rw [ah] at HP ⊢;generalize hm:p.length=m at *;have HM:=D hm;generalize jA p b=r at *;clear hp hl hm np nb;go_enter Try.func15,Try.ntmps15;go_wp2
 go_loopw [11] (fun i wr=>∃ k:Nat,k<=m/\i=U X k/\Below w.heap.size w wr/\(p.take k).all (wM b)=au) (fun i _=>m-(intOf i).toNat)
 case atStart=>exact⟨0,aK _,rfl,Below.refl _ _,rfl⟩
 case round =>
  obtain⟨k,hk,rfl,hb,hall⟩:=hrel;have HB:=D hb;have AL:=D hall;clear hb hall;by_cases hlt:k<m
  ·obtain⟨⟨xn,xk⟩,hx⟩:∃ x,p[k]?=Z x:=⟨_,O (by rw [HM.out]; exact hlt)⟩;obtain⟨q,ix,px⟩:=Nl (x:=r5 (xn,xk)) HP.out rfl (by rw [ah]; exact HM.out) (by rw [aJ,hx]; rfl);obtain⟨p0,p1,p2,p3,p4⟩:=px _ HB.out;have MO:=D (Bn (wM b) p k (xn,xk) hx);have NO:=D (fun h=>Fv (wM b) p k (xn,xk) hx h);have GX:=D (GP.out _ (List.mem_of_getElem? hx));have BX:=D (show dz (wr.alloc (Y #[J xn,U X (kN xk),U X (ko xk),U X (kr xk),J (kT xk)] 56)) wr.heap.size (cells5 (xn,kN xk,ko xk,kr xk,kT xk)).toArray 56 from dI wr _ _);have B1:=D (HB.out.alloc HB.out.size (Y #[J xn,U X (kN xk),U X (ko xk),U X (kr xk),J (kT xk)] 56));have G:=D (wP qv b xn (wr.alloc (Y #[J xn,U X (kN xk),U X (ko xk),U X (kr xk),J (kT xk)] 56)) (HL.out.on B1.out) h5);have GC:=D (show wM b (xn,xk)=match EG b xn with
    | some y=>gq y.2 xk
    | none=>aG from rfl)
   obtain⟨gg,hgg⟩:∃ g,wM b (xn,xk)=g:=⟨_,rfl⟩;rw [hgg] at GC MO NO;simp only [r5] at p0 p1 p2 p3 p4;clear hx px hgg;go_wp2_with fail;refine G.out.mono ?_;rintro e2 w2 ⟨he2,hb2⟩;have B2:=D (B1.out.trans (hb2.mono B1.out.size));obtain⟨x0,x1,x2,x3,x4⟩:=gu (BX.out.on hb2);simp only at x0 x1 x2 x3 x4;have hwl:wr.heap.size<w2.heap.size:=by have:=hb2.size; simp at this; omega
   rcases hg:EG b xn with _|⟨yn,yk⟩
   ·rw [hg] at he2 GC;subst he2;have R:=D (show r=aG by rw [CO.out]; exact NO.out GC.out);clear hb2 G B1 BX ix p0 p1 p2 p3 p4 hg;unfold Ju;go_wp2;go_ret;exact⟨fD R.out.symm,B2.out.alloc B2.out.size _⟩
   ·obtain⟨hm1,hm2⟩:=Ci hg;obtain rfl:yn=xn:=hm2;rw [hg] at he2 GC;subst he2;have WC:=D (fun W=>zw yn xk yk W GX.out (GB.out _ hm1));simp only [r5] at WC;clear hb2 G B1 BX ix p0 p1 p2 p3 p4 hg hm1;unfold Ju;simp only [r5];go_wp2_with fail;refine (WC.out _).mono ?_;rintro e3 w3 ⟨rfl,hb3⟩;have B3:=D ((B2.out.alloc B2.out.size (Y #[J yn,U X (kN yk),U X (ko yk),U X (kr yk),J (kT yk)] 56)).trans (hb3.mono (B2.out.alloc B2.out.size (Y #[J yn,U X (kN yk),U X (ko yk),U X (kr yk),J (kT yk)] 56)).size));rw [<- GC.out];clear hb3 B2 x0 x1 x2 x3 x4 hwl WC;cases gg
    ·have R:=D (show r=aG by rw [CO.out]; exact NO.out rfl);go_wp2;go_ret;exact⟨fD R.out.symm,B3.out⟩
    ·go_wp2
     go_roundw
     case rel=>exact⟨k+1,by omega,by go_num,B3.out,by rw [MO.out,AL.out]; rfl⟩
     case measure=>simp [intOf]; omega
  ·obtain rfl:k=m:=by omega
   have R:=D (show r=au by rw [CO.out,<- F6 _ p _ HM.out]; exact AL.out);go_wp2;go_ret;exact⟨fD R.out.symm,HB.out⟩
end Rl
namespace Rg
open Go.RowKit Rw Av
structure GN (i N S:Nat) (d last:Nat->Nat) (V:Nat->aC->ay->Prop) (base:Act) (o:Oper) (a:Act) (x:ay):Prop where
 kp:∀ j u,(∀ i,i<N->d i≠j)->base.tmps[j]?=Z u->a.eval (.tmp j)=u
 at_:∀ e∈o.after,aj .any e=au->e.on≠S->(last e.on=i\/N<=last e.on)->V e.on (a.eval (.tmp (d e.on))) x
def EH (b:Nat) (W x:ay):Prop:=But b W x/\∀ B,B<=b->Below B W x
theorem EH.grow {b:Nat} {W x x':ay} (h:EH b W x) (hl:b<W.heap.size) (hb:Below x.heap.size x x'):EH b W x' :=
 ⟨⟨fun k hk hne=>(hb.block k (aI hk h.1.2)).trans (h.1.1 k hk hne),aD h.1.2 hb.size⟩,fun B hB=>(h.2 B hB).trans (hb.mono (aD (aD hB (Nat.le_of_lt hl)) h.1.2))⟩
structure Ry (l:List Oper) (N S C:Nat) (d last:Nat->Nat) (V:Nat->aC->ay->Prop) (t:TypeId) (bb:Nat) (old:Array aC) (z8:aC->Array aC) (base:Act) (W:ay) (L:Array Bool) (a:Act) (x:ay):Prop where
 cl:∀ i o,done L i->l[i]?=Z o->∀ e∈o.after,aj .any e=au->done L e.on
 no:∀ i,N<=i->¬ done L i
 df:a.defers=base.defers
 sz:a.tmps.size=base.tmps.size
 kp:∀ j,(∀ i,i<N->d i≠j)->a.tmps[j]?=base.tmps[j]?
 Nr:EH bb W x
 val:∃ vs:Nat->aC,∀ i,i<N->i≠S->done L i->a.tmps[d i]?=Z (vs i)/\(¬ done L (last i)->V i (vs i) x)
 box:¬ done L S->Below W.heap.size W x/\dz x bb old t
 fin:done L S->∃ v,a.tmps[d C]?=Z v/\dz x bb (z8 v) t/\V C v x
theorem lJ {P:Program} {Q:Exit->Act->ay->Prop} {id:Nat} {base:Act} {W:ay} {l:List Oper} (N S C:Nat) (d last:Nat->Nat) (V:Nat->aC->ay->Prop) (fl:Nat->Bool) (t:TypeId) (bb:Nat) (old:Array aC) (z8:aC->Array aC)
  (hm:P.follows .mixedOrders=au) (hf:yH l.toArray=au) (hN:l.length=N) (hS:S<N) (hC:C<N) (hCS:C≠S) (KH:N<=last C) (fG:dz W bb old t)
  (hinj:∀ i j,i<N->j<N->i≠S->j≠S->d i=d j->i=j) (hs:∀ i,i<N->i≠S->d i<base.tmps.size)
  (hV:∀ i v x x',i<N->V i v x->Below x.heap.size x x'->V i v x')
  (hfl:∀ o,l[S]?=Z o->∀ i,i<N->i≠S->fl i=aG->∃ e∈o.after,aj .any e=au/\e.on=i) (K5:fl C=aG)
  (hop:∀ i o,i<N->i≠S->l[i]?=Z o->∀ a x,(fl i=aG->Below W.heap.size W x/\dz x bb old t)->GN i N S d last V base o a x->∀ K:Act->ay->Prop,(∀ v x',V i v x'->Below x.heap.size x x'->K (a.put (Z (d i)) v) x')->wpOp P l.toArray Q i K a x)
  (NG:∀ o,l[S]?=Z o->∀ a x v,Below W.heap.size W x->dz x bb old t->a.eval (.tmp (d C))=v->V C v x->(∀ j u,base.tmps[j]?=Z u->(∀ i,i<N->d i≠j)->a.eval (.tmp j)=u)->∀ K:Act->ay->Prop,(∀ x',But bb x x'->(∀ B w,B<=bb->Below B w x->Below B w x')->dz x' bb (z8 v) t->(∀ j u,j<N->j≠S->N<=last j->V j u x->V j u x')->K a x')->wpOp P l.toArray Q S K a x)
  (hlast:∀ j,j<N->j≠S->N<=last j\/(last j<N/\last j≠S/\fl (last j)=aG))
  (hend:∀ a x v,a.defers=base.defers->a.tmps.size=base.tmps.size->(∀ j,(∀ i,i<N->d i≠j)->a.tmps[j]?=base.tmps[j]?)->a.tmps[d C]?=Z v->dz x bb (z8 v) t->V C v x->EH bb W x->(∃ vs:Nat->aC,∀ i,i<N->i≠S->a.tmps[d i]?=Z (vs i)/\(N<=last i->V i (vs i) x))->Q .normal a x):(Code.region id l.toArray au).wp P Q base W:=by
 have hbl:bb<W.heap.size:=fG.lt;refine mq (fun L a x=>Ry l N S C d last V t bb old z8 base W L a x) hm hf ?_ ?_ ?_
 ·exact⟨fun i o h=>absurd h (fT _ _),fun i _=>fT _ _,rfl,rfl,fun _ _=>rfl,⟨⟨fun _ _ _=>rfl,aA _⟩,fun B hB=>(Below.refl _ _).drew⟩,⟨fun _=>.bool au,fun i _ _ h=>absurd h (fT _ _)⟩,fun _=>⟨(Below.refl _ _).drew,fG⟩,fun h=>absurd h (fT _ _)⟩
 ·intro L a x i o hsz I ho hnd kC;have hi:i<l.length:=(ak.1 ho).1;have EA:i<N:=by omega
  have vN:i<L.size:=by omega
  obtain⟨vs,hvs⟩:=I.val;obtain⟨oS,uE⟩:∃ oS,l[S]?=Z oS:=⟨_,O (by omega)⟩;have hon:∀ e∈o.after,aj .any e=au->e.on<i:=fun e he hb=>by
   have h7:=List.all_eq_true.1 hf i (List.mem_range.2 (by simpa using hi));have ho':(l.toArray)[i]?=Z o:=by simpa using ho
   rw [ho'] at h7;have h8:=Array.all_eq_true'.1 h7 e he;rw [hb] at h8;simpa using h8
  have dd:∀ {k},k≠i->done (L.setIfInBounds i au) k->done L k:=fun {k} h h5=>((fZ vN k).1 h5).resolve_left h;have du:∀ {k},done L k->done (L.setIfInBounds i au) k:=fun {k} h=>(fZ vN k).2 (Or.inr h);have cl':∀ k q,done (L.setIfInBounds i au) k->l[k]?=Z q->∀ e∈q.after,aj .any e=au->done (L.setIfInBounds i au) e.on:=fun k q hk hq e he hb=>by
   by_cases e2:k=i
   ·subst e2;rw [hq] at ho;cases ho;exact du (kC e he hb)
   ·exact du (I.cl k q (dd e2 hk) hq e he hb)
  have no':∀ k,N<=k->¬ done (L.setIfInBounds i au) k:=fun k hk h=>I.no k hk (dd (by omega) h);have early:∀ k,k<N->k≠S->fl k=aG->¬ done L k->¬ done L S:=fun k hk qC Jt hnk Rz=>by
   obtain⟨e,h1,h2,h3⟩:=hfl oS uE k hk qC Jt;exact hnk (h3 ▸ I.cl S oS Rz uE e h1 h2)
  by_cases ou:i=S
  ·subst ou;have dC:done L C:=by
    obtain⟨e,h1,h2,h3⟩:=hfl o ho C hC hCS K5;exact h3 ▸ kC e h1 h2
   obtain⟨v1,v2⟩:=hvs C hC hCS dC;have vC:=v2 (I.no _ KH);obtain⟨b1,b2⟩:=I.box hnd;refine NG o ho a x (vs C) b1 b2 (dD v1) vC (fun j u hu hj=>dD (by rw [I.kp j hj]; exact hu)) _ (fun x' q1 q2 q3 q4=>⟨cl',no',I.df,I.sz,I.kp,⟨⟨fun k hk hne=>(q1.1 k (aI hk b1.size) hne).trans (I.Nr.1.1 k hk hne),aD b1.size q1.2⟩,fun B hB=>q2 B W hB (I.Nr.2 B hB)⟩,⟨vs,fun k hk qC hdn=>?_⟩,fun hn=>absurd ((fZ vN _).2 (Or.inl rfl)) hn,fun _=>⟨vs C,v1,q3,?_⟩⟩)
   ·obtain⟨w1,w2⟩:=hvs k hk qC (dd qC hdn);refine⟨w1,fun hnl=>?_⟩;rcases hlast k hk qC with h5|⟨h5,h6,h7⟩
    ·exact q4 k _ hk qC h5 (w2 (I.no _ h5))
    ·exfalso;obtain⟨e,g1,g2,g3⟩:=hfl o ho (last k) h5 h6 h7;exact hnl (du (g3 ▸ kC e g1 g2))
   ·exact q4 C _ hC hCS KH vC
  ·have seen:GN i N S d last V base o a x:=⟨fun j u hj hu=>dD (by rw [I.kp j hj]; exact hu),fun e he hb hS' hl=>by
    obtain⟨h1,h2⟩:=hvs e.on (by have:=hon e he hb; omega) hS' (kC e he hb);rw [dD h1];refine h2 ?_;rcases hl with hl|hl
    ·rw [hl]; exact hnd
    ·exact I.no _ hl⟩
   refine hop i o EA ou ho a x (fun hfi=>I.box (early i EA ou hfi hnd)) seen _ (fun v x' hpv hb=>?_);have self:(a.put (Z (d i)) v).tmps[d i]?=Z v:=by
    have h5:d i<a.tmps.size:=by rw [I.sz]; exact hs i EA ou
    simp [Act.put,h5]
   have keep:∀ k,k<N->k≠S->k≠i->(a.put (Z (d i)) v).tmps[d k]?=a.tmps[d k]?:=fun k hk qC hki=>get_put _ _ _ _ (fun e=>hki (hinj _ _ hk EA qC ou e));refine⟨cl',no',I.df,by rw [size_put]; exact I.sz,fun j hj=>?_,I.Nr.grow hbl hb,⟨fun k=>if k=i then v else vs k,fun k hk qC hdn=>?_⟩,fun h2=>?_,fun h1=>?_⟩
   ·rw [get_put _ _ _ _ (fun e=>hj i EA e.symm)];exact I.kp j hj
   ·by_cases e:k=i
    ·subst e;simp only [if_true];exact⟨self,fun _=>hpv⟩
    ·simp only [if_neg e];obtain⟨h3,h4⟩:=hvs k hk qC (dd e hdn);exact⟨by rw [keep k hk qC e]; exact h3,fun h6=>hV k _ _ _ hk (h4 (fun h=>h6 (du h))) hb⟩
   ·obtain⟨b1,b2⟩:=I.box (fun h=>h2 (du h));exact⟨b1.trans (hb.mono b1.size),b2.on hb⟩
   ·have h2:=dd (Ne.symm ou) h1;obtain⟨u,h6,h8,h9⟩:=I.fin h2;obtain⟨ec,k4,k5,k6⟩:=hfl oS uE C hC hCS K5;have dC:=I.cl S oS h2 uE ec k4 k5;rw [k6] at dC;have eC:C≠i:=fun e=>hnd (e ▸ dC);exact⟨u,by rw [keep C hC hCS eC]; exact h6,h8.on hb,hV C _ _ _ hC h9 hb⟩
 ·intro L a x I hd;have dS:=hd S (by omega);obtain⟨v,h2,h4,h5⟩:=I.fin dS;obtain⟨vs,hvs⟩:=I.val;exact hend a x v I.df I.sz I.kp h2 h4 h5 I.Nr ⟨vs,fun i hi ou=>by
   obtain⟨k1,k2⟩:=hvs i hi ou (hd i (by omega));exact⟨k1,fun hl=>k2 (I.no _ hl)⟩⟩
end Rg
end Go.Proofs.Ytmklifheakemeaa
