/-
  Plain facts on one c. Conditions as told.
-/
import Derived.Test.YtkcfgbddlpomgaaGreatCQ009
import Derived.Test.YtkcfgbddlpomgaaGreatCQ012
import Derived.Test.YtkcfgbddlpomgaaGreatCQ014
import Derived.Test.YtkcfgbddlpomgaaGreatCQ015
set_option maxRecDepth 100000
set_option maxHeartbeats 64000000
open _root_.Bool renaming and_eq_true->aB,eq_iff_iff->aG,false->aN,true->aT
open _root_.Go renaming cell_regrown->X,below_regrown->ay,Value->aO,World->aP,redrawn->aW,bodyPost_ret->aZ,Calls->bf
open Go.IntKind renaming i64->K
open Go.Lib renaming hid->D
open Go.Obj renaming cells->aj
open Go.Proofs.Tryz renaming prog->aC,results128->aV
open Go.Value renaming int->J,string->L,slice->Z,pointer->aX,bool->aY
open Go.World.ownsRow renaming stored->V
open _root_.List renaming getElem?_eq_getElem->O,getElem?_map->ah,getElem?_eq_some_iff->aA,getElem?_cons_zero->aD,getElem?_cons_succ->aF,getElem?_toArray->aH,mem_of_getElem?->aK,getElem_of_mem->aL,takeWhile_cons->aM,find?_eq_none->aQ,any_eq_false->aR,any_eq_true->aS,length_map->aU
open _root_.Nat renaming lt_or_ge->Y,le_refl->aI,zero_le->aJ
open _root_.Option renaming some->ak,none->au
open Option.some renaming inj->U
namespace Go.Proofs.YtkcfgbddlpomgaaGreat
namespace Rl
open Go.RowKit Pu Pr
def U9 (p:List Cn) (n:ByteArray):Option Cn:=p.find? fun c=>decide (c.1=n)
theorem QF {p:List Cn} {n:ByteArray} {y:Cn} (h:U9 p n=ak y):y∈p/\y.1=n:=⟨List.mem_of_find?_eq_some h,by simpa using List.find?_some h⟩
theorem abO {p:List Cn} {n:ByteArray} {k:Nat} {y:Cn} (hk:p[k]?=ak y) (he:y.1=n) (hn:∀ (j:Nat) (z:Cn),j<k->p[j]?=ak z->z.1≠n):U9 p n=ak y:=by
 unfold U9;rw [List.find?_eq_some_iff_getElem];obtain⟨hlt,hy⟩:=aA.1 hk;refine⟨by simpa using he,k,hlt,hy,fun j hj=>?_⟩;have:=hn j p[j] hj (O (by omega));simpa using this
theorem Vw {p:List Cn} {n:ByteArray} (hn:∀ (j:Nat) (z:Cn),j<p.length->p[j]?=ak z->z.1≠n):U9 p n=au:=by
 unfold U9;rw [aQ];intro x hx;obtain⟨j,hj,e⟩:=aL hx;have:=hn j x hj (by rw [O hj,e]);simpa using this
def Jk (b:List Cn) (x:Cn):Bool:=match U9 b x.1 with
 | some y=>eB y.2 x.2
 | none=>aN
theorem Nq {a b:List Cn} (hb:mU b):ou a b=a.all (Jk b):=by
 unfold ou
 congr 1
 funext x
 unfold Jk;cases hf:U9 b x.1 with
 | none =>
  rw [aR];intro y hy;have:=aQ.1 hf y hy;simp only [decide_eq_true_eq] at this;simp [this]
 | some y =>
  obtain⟨h1,h2⟩:=QF hf;rw [aG,aS];constructor
  ·rintro⟨z,hz,h3⟩;simp only [aB,decide_eq_true_eq] at h3;rw [abC hb h1 hz (h2.trans h3.1.symm)];exact h3.2
  ·intro h3;exact⟨y,h1,by simp [h2,h3]⟩
theorem Jl {n:ByteArray} {c d k:Kd} (hc:iV c=aT) (hd:iV d=aT) (h:eX c d=ak k):xH (r5 (n,k)) (r5 (n,d))=eB d c:=by
 obtain⟨k1,k2⟩:=Mv c d k hc hd h;rw [aG,Fj];constructor
 ·intro e;have e2:=Zu e;obtain rfl:k=d:=congrArg Prod.snd e2;exact Aw k c hd fun v hv=>by rw [k2,aB] at hv; exact hv.1
 ·intro hi;have:k=d:=IL k d k1 hd fun v=>by
   rw [k2,aG,aB];exact⟨fun h=>h.2,fun h=>⟨tq d c hi v h,h⟩⟩
  rw [this]
theorem Jm {c d:Kd} (hd:iV d=aT) (h:eX c d=au):eB d c=aN:=by
 rw [Bool.eq_false_iff];intro hi;obtain⟨v,hv⟩:=IK d hd;have:=Mw c d h v;rw [hv,tq d c hi v hv] at this;cases this
/-! ### samples -/
/-! ### both together -/
end Rl
namespace Pr
open Go.RowKit Go.Sort Pu Rw Va
theorem Cg:∀ (l:List C5) (k:Nat) (x:C5),k<l.length->flat EC (l.set k x)=((((( flat EC l).set (k * 5) (L x.1)).set (k * 5+1) (J K x.2.1)).set (k * 5+2) (J K x.2.2.1)).set (k * 5+3) (J K x.2.2.2.1)).set (k * 5+4) (L x.2.2.2.2)
 | [],k,x,h=>by simp at h
 | y::r,0,x,_=>by simp [flat,EC,cells5]
 | y::r,k+1,x,h=>by
  have h2:=Cg r k x (by simpa using h);have e:∀ j u (zs:List aO),(cells5 y++zs).set (5+j) u=cells5 y++zs.set j u:=fun j u zs=>by simp [cells5,Nat.add_comm 5 j]
  simp only [List.set_cons_succ,flat,h2];show cells5 y++_=_;rw [show (k+1) * 5=5+k * 5 by omega,show 5+k * 5+1=5+(k * 5+1) by omega,show 5+k * 5+2=5+(k * 5+2) by omega,show 5+k * 5+3=5+(k * 5+3) by omega,show 5+k * 5+4=5+(k * 5+4) by omega];show _=((((( cells5 y++flat EC r).set _ _).set _ _).set _ _).set _ _).set _ _;rw [e,e,e,e,e]
theorem Nr {W:aP} {B g n cap k:Nat} {l:List C5} {x:C5} (h:jL W B (Z (ak ⟨g,0,au⟩) n cap) l) (hn:n=l.length) (hk:k<n) :
  jL (((((W.setCell ⟨g,k * 5,au⟩ (L x.1)).setCell ⟨g,k * 5+1,au⟩ (J K x.2.1)).setCell ⟨g,k * 5+2,au⟩ (J K x.2.2.1)).setCell ⟨g,k * 5+3,au⟩ (J K x.2.2.2.1)).setCell ⟨g,k * 5+4,au⟩ (L x.2.2.2.2)) B (Z (ak ⟨g,0,au⟩) n cap) (l.set k x):=by
 subst hn;have o1:=(V h (k * 5) (L x.1)).1;have o2:=(V o1 (k * 5+1) (J K x.2.1)).1;have o3:=(V o2 (k * 5+2) (J K x.2.2.1)).1;have o4:=(V o3 (k * 5+3) (J K x.2.2.2.1)).1;have o5:=(V o4 (k * 5+4) (L x.2.2.2.2)).1;rw [<- Cg l k x hk] at o5;show World.ownsRow _ _ _ _ _ (l.set k x).length _;rw [List.length_set];exact o5
theorem DY {B:Nat} {W w:aP} (h:Below B W w) (g:Nat) (hB:B<=g) (o:Nat) (v0 v1 v2 v3 v4:aO):Below B W (((((w.setCell ⟨g,o,au⟩ v0).setCell ⟨g,o+1,au⟩ v1).setCell ⟨g,o+2,au⟩ v2).setCell ⟨g,o+3,au⟩ v3).setCell ⟨g,o+4,au⟩ v4) :=
 ((((h.setCell hB _).setCell hB _).setCell hB _).setCell hB _).setCell hB _
theorem wo {W:aP} {b:Nat} {z:C5} (h:dG W b (cells5 z).toArray 106) (x:C5):dG (((((W.setCell ⟨b,0,au⟩ (L x.1)).setCell ⟨b,1,au⟩ (J K x.2.1)).setCell ⟨b,2,au⟩ (J K x.2.2.1)).setCell ⟨b,3,au⟩ (J K x.2.2.2.1)).setCell ⟨b,4,au⟩ (L x.2.2.2.2)) b (cells5 x).toArray 106:=by
 have h1:=heap_setCell_same W b 0 _ 106 (L x.1) h;have h2:=heap_setCell_same _ b 1 _ 106 (J K x.2.1) h1;have h3:=heap_setCell_same _ b 2 _ 106 (J K x.2.2.1) h2;have h4:=heap_setCell_same _ b 3 _ 106 (J K x.2.2.2.1) h3;have h5:=heap_setCell_same _ b 4 _ 106 (L x.2.2.2.2) h4;unfold dG;rw [h5];simp [cells5]
end Pr
namespace Rl
open Go.RowKit Go.Sort Pu Rw Pr Va
abbrev z5:C5:=(⟨#[]⟩,0,0,0,⟨#[]⟩)
def ZY:Option Cn->aO
 | some y=>.tuple #[cv (r5 y),aY aT]
 | none=>.tuple #[cv z5,aY aN]
theorem Jo (pv:aO) (p:List Cn) (n:ByteArray) (w:aP) (hp:fG w pv (p.map r5)) (_h100:p.length<=100) :
  bf aC 128 #[pv,L n] w fun e w'=>e=.returned (ZY (U9 p n))/\Below w.heap.size w w':=by
 have HP:=D hp;obtain⟨ao,ac,rfl⟩:=hp.len;rw [aU] at HP ⊢;generalize hm:p.length=m at *;have HM:=D hm;clear hp hm;have B0:=D (show Below w.heap.size w (w.alloc (aj #[L ⟨#[]⟩,J K 0,J K 0,J K 0,L ⟨#[]⟩] 106)) from (Below.refl _ _).alloc (aI _) _);have Z0:=D (show dG (w.alloc (aj #[L ⟨#[]⟩,J K 0,J K 0,J K 0,L ⟨#[]⟩] 106)) w.heap.size (cells5 z5).toArray 106 from dI w _ _);go_enter Tryz.func128,Tryz.ntmps128;go_wp2;generalize w.alloc (aj #[L ⟨#[]⟩,J K 0,J K 0,J K 0,L ⟨#[]⟩] 106)=w1 at B0 Z0 ⊢
 go_loopw [10] (fun i wr=>∃ k:Nat,k<=m/\i=J K k/\Below w.heap.size w wr/\dG wr w.heap.size (cells5 z5).toArray 106/\∀ (j:Nat) (y:Cn),j<k->p[j]?=ak y->y.1≠n) (fun i _=>m-(intOf i).toNat)
 case atStart=>exact⟨0,aJ _,rfl,B0.out,Z0.out,fun j y h=>by omega⟩
 case round =>
  obtain⟨k,hk,rfl,hb,ht,hall⟩:=hrel;have HB:=D hb;have HT:=D ht;have AL:=D hall;clear hb hall ht;by_cases hlt:k<m
  ·obtain⟨⟨xn,xk⟩,hx⟩:∃ x,p[k]?=ak x:=⟨_,O (by rw [HM.out]; exact hlt)⟩;obtain⟨q,ix,px⟩:=U7 (x:=r5 (xn,xk)) HP.out rfl (by rw [aU]; exact HM.out) (by rw [ah,hx]; rfl);obtain⟨p0,p1,p2,p3,p4⟩:=px _ HB.out;have HX:=D hx;have B4:=D (HB.out.alloc HB.out.size (aj #[L xn,J K (kN xk),J K (jg xk),J K (jh xk),L (kT xk)] 106));have T4:=D (HT.out.more (aj #[L xn,J K (kN xk),J K (jg xk),J K (jh xk),L (kT xk)] 106));clear hx px;simp only [r5] at p0 p1 p2 p3 p4;by_cases he:xn=n
   ·have hn:(xn.toList == n.toList)=aT:=by rw [he]; exact beq_self_eq_true _
    have R:=D (abO HX.out he AL.out);clear he;obtain⟨c0,c1,c2,c3,c4⟩:=eH HT.out;have f0:=HT.out.fr 0;have f1:=HT.out.fr 1;have f2:=HT.out.fr 2;have f3:=HT.out.fr 3;have f4:=HT.out.fr 4;have Z7:=HT.out.lt;simp only at c0 c1 c2 c3 c4;go_wp2;have T5:=(wo HT.out (xn,kN xk,jg xk,jh xk,kT xk)).more (aj #[L xn,J K (kN xk),J K (jg xk),J K (jh xk),L (kT xk)] 106);have B5:=(gW HB.out w.heap.size (aI _) (L xn) (J K (kN xk)) (J K (jg xk)) (J K (jh xk)) (L (kT xk))).alloc (gW HB.out w.heap.size (aI _) (L xn) (J K (kN xk)) (J K (jg xk)) (J K (jh xk)) (L (kT xk))).size (aj #[L xn,J K (kN xk),J K (jg xk),J K (jh xk),L (kT xk)] 106);generalize World.alloc _ (aj #[L xn,J K (kN xk),J K (jg xk),J K (jh xk),L (kT xk)] 106)=w6 at T5 B5 ⊢;obtain⟨d0,d1,d2,d3,d4⟩:=eH T5;simp only at d0 d1 d2 d3 d4;refine aZ (v:=ZY (ak (xn,xk))) (by simp [results,aV,go_sem,d0,d1,d2,d3,d4,ZY,r5]) rfl ⟨by rw [R.out],B5⟩
   ·have hn:(xn.toList == n.toList)=aN:=by rw [beq_eq_false_iff_ne]; exact fun h=>he (nL h)
    have HE:=D he;clear he;go_wp2
    go_roundw
    case rel=>exact⟨k+1,by omega,by go_num,B4.out,T4.out,fun j y hj hy=>by
     rcases Y j k with h3|h3
     ·exact AL.out j y h3 hy
     ·obtain rfl:j=k:=by omega
      have e:=HX.out;rw [hy] at e;rw [U e];exact HE.out⟩
    case measure=>simp [intOf]; omega
  ·obtain rfl:k=m:=by omega
   have R:=D (Vw (p:=p) (n:=n) (fun j y hj hy=>AL.out j y (by rw [<- HM.out]; exact hj) hy));obtain⟨c0,c1,c2,c3,c4⟩:=eH HT.out;have f0:=HT.out.fr 0;have f1:=HT.out.fr 1;have f2:=HT.out.fr 2;have f3:=HT.out.fr 3;have f4:=HT.out.fr 4;have Z7:=HT.out.lt;simp only at c0 c1 c2 c3 c4;go_wp2;have T5:=wo HT.out z5;have B5:=gW HB.out w.heap.size (aI _) (L ⟨#[]⟩) (J K 0) (J K 0) (J K 0) (L ⟨#[]⟩);simp only at T5;generalize World.setCell _ _ (L ⟨#[]⟩)=w6 at T5 B5 ⊢;obtain⟨d0,d1,d2,d3,d4⟩:=eH T5;simp only at d0 d1 d2 d3 d4;refine aZ (v:=ZY au) (by simp [results,aV,go_sem,d0,d1,d2,d3,d4,ZY]) rfl ⟨by rw [R.out],B5⟩
theorem Ns (n:ByteArray) (c d:Kd) (w:aP) (hc:iV c=aT) (hd:iV d=aT) :
  bf aC 129 #[cv (r5 (n,c)),cv (r5 (n,d))] w fun e w'=>e=.returned (aY (eB d c))/\Below w.heap.size w w':=by
 obtain⟨ba,bb,hb⟩:=Qx w (r5 (n,c)) (r5 (n,d));have BB:=D bb;have B:=D hb;have CB:=D (QE (n,c) (n,d) ((w.alloc (aj (cells5 (r5 (n,c))).toArray 106)).alloc (aj (cells5 (r5 (n,d))).toArray 106)) rfl);have WS:=D (fun k (h:eX c d=ak k)=>Jl (n:=n) hc hd h);have WN:=D (fun (h:eX c d=au)=>Jm hd h);simp only at CB;generalize eX c d=r at *;generalize eB d c=i at *;clear ba bb hb hc hd;simp only [r5] at CB ⊢;go_enter Tryz.func129,Tryz.ntmps129;go_wp2_with fail;refine CB.out.mono ?_;rintro e w2 ⟨⟨y,rfl,hy⟩,hb2⟩;have B2:=D (B.out.trans (hb2.mono B.out.size));obtain⟨b0,b1,b2,b3,b4⟩:=eH (BB.out.on hb2);simp only [r5] at b0 b1 b2 b3 b4;have B3:=D (B2.out.alloc B2.out.size (aj #[L y.1,J K y.2.1,J K y.2.2.1,J K y.2.2.2.1,L y.2.2.2.2] 106));have HY:=D hy;have hw2:w.heap.size+1<w2.heap.size:=by have:=hb2.size; simp at this; omega
 clear hb2 CB BB B hy;rcases r with _|k
 ·have E:=D (WN.out rfl);clear WN WS;go_wp2;go_ret;exact⟨dZ E.out.symm,B3.out⟩
 ·have E:=D (show xH y (r5 (n,d))=i by rw [HY.out k rfl]; exact WS.out k rfl);obtain⟨y0,y1,y2,y3,y4⟩:=y;clear WN WS HY B3;go_wp2
  all_goals go_ret
  all_goals exact⟨dZ (by rw [<- E.out]; simp [xH,r5, *]),B2.out.alloc B2.out.size _⟩
end Rl
namespace Bk
open Go.RowKit Rw YtkcfgbddlpomgaaGreat.Nm Pr Rl
def Vx (c:C5):Cn:=(c.1,if c.2.1=1 then .rg c.2.2.1 c.2.2.2.1 else if c.2.1=2 then .tx c.2.2.2.2 else .pr c.2.2.2.2)
theorem Z9 (c:Cn):Vx (r5 c)=c:=by
 obtain⟨n,k⟩:=c;cases k <;> simp [Vx,r5,kN,jg,jh,kT]
theorem oD (a:List Cn):(a.map r5).map Vx=a:=by
 rw [List.map_map];have h:Vx∘r5=id:=funext Z9;rw [h,List.map_id]
def dM (p:List C5):Prop:=∃ a:List Cn,NF a/\p=a.map r5
def mg (p q:List C5):Bool:=ou (p.map Vx) (q.map Vx)
theorem QG (oO bv:aO) (p q:List C5) (w:aP) (ha:fG w oO p) (hb:fG w bv q) (hp:dM p) (hq:dM q) :
  bf aC 110 #[oO,bv] w fun e w'=>e=.returned (aY (mg p q))/\Below w.heap.size w w':=by
 obtain⟨a,na,rfl⟩:=hp;obtain⟨b,nb,rfl⟩:=hq;unfold mg;rw [oD,oD];exact FX oO bv a b w ha hb (by have:=na.five; omega) (by have:=nb.five; omega)
def QH (t:Id) (p:List C5) (e:En):Bool:=decide (e.tree=t) && (e.up && mg e.p p)
def eP (m:List En) (t:Id) (p:List C5):Bool:=m.any (QH t p)
theorem uO (me:Int) (nv av sv ov:aO) (ev:Sl) (l:List iB) (m:List En) (x:Id) (pv:aO) (p':List C5) (w:aP) (hs:jX w (dK ev) l) (hu:dX (iX w) l m) (hp:fG w pv p') (hok:∀ e∈m,dM e.p) (hop:dM p') :
  bf aC 92 #[.agg #[J K me,nv,av,sv,dK ev,ov],lZ x,pv] w fun e w'=>e=.returned (aY (eP m x p'))/\Below w.heap.size w w':=by
 have HU:=D hu;have HP:=D hp;have OK:=D hok;have OP:=D hop;obtain⟨pa,pc,rfl⟩:=hp.len;obtain⟨pn,hpn⟩:∃ n,n=p'.length:=⟨_,rfl⟩;rw [<- hpn] at HP ⊢;clear hu hp hok hop hpn;obtain⟨c,d⟩:=x;obtain⟨so,sn,sc⟩:=ev;obtain⟨ao,ac,hv⟩:=hs.len;have hv:Z so sn sc=Z ao l.length ac:=hv;obtain⟨rfl,rfl,rfl⟩:so=ao/\sn=l.length/\sc=ac:=by simpa using hv
 obtain⟨h0,h1,h2⟩:=gG w #[J K me,nv,av,sv,Z so l.length sc,ov] #[J K c,J K d] 33 38;have B:=D h0;have HS:=D (hs.on h0);have X2:=D h1;have X3:=D h2;have lm:=hs.most;unfold maxLen at lm;obtain⟨n,hn⟩:∃ n,n=l.length:=⟨_,rfl⟩;have q3:=h1.cell 4;simp only [aH,aD,aF] at q3;rw [<- hn] at HS X2 lm q3 B X3 ⊢;have HN:=D hn.symm;clear h0 h1 h2 hs hv hn;go_enter Tryz.func92,Tryz.ntmps92;go_upto_region 1 with fail;generalize (w.alloc (aj #[J K me,nv,av,sv,Z so n sc,ov] 33)).alloc (aj #[J K c,J K d] 38)=W at *;go_wp2
 go_loopw [12] (fun i wr=>∃ k:Nat,k<=n/\i=J K k/\Below W.heap.size W wr/\∀ (j:Nat) (y:En),j<k->m[j]?=ak y->QH (c,d) p' y=aN) (fun i _=>n-(intOf i).toNat)
 case atStart=>exact⟨0,aJ _,rfl,Below.refl _ _,fun j y h=>by omega⟩
 case round =>
  obtain⟨k,hk,rfl,hbe,hall⟩:=hrel;have BE:=D hbe;have AL:=D hall;clear hbe hall;by_cases hlt:k<n
  ·obtain⟨y,hy⟩:∃ y,l[k]?=ak y:=⟨_,O (by rw [HN.out]; exact hlt)⟩;obtain⟨p,ix,px⟩:=Pq HS.out rfl HN.out hy;obtain⟨p0,p1,p2,p3,p4,p5,p6⟩:=px wr BE.out;obtain⟨y1,y2,y3,y4,⟨yo,yn,yc⟩,y6,y7⟩:=y;simp only at p0 p1 p2 p3 p4 p5 p6;have NB:=D (fT wr (aj #[J K y1,J K y2,J K y3,J K y4,Z yo yn yc,J K y6,aY y7] 68));obtain⟨x0,x1⟩:=((X3.out.on BE.out).on NB.out).cs2;have hw3:IntKind.i64.wrap ((k:Int)+1)=(k:Int)+1:=IntWalk.i64_in _ (by omega);obtain⟨me_,hm,hin⟩:=oC HU.out k _ hy;obtain⟨r,hr⟩:∃ r,(y1 == c && y2 == d)=r:=⟨_,rfl⟩;obtain⟨t,ht⟩:∃ r,mg me_.p p'=r:=⟨_,rfl⟩;have he:=rG y1 y2 c d r hr;have HV:=D (show QH (c,d) p' me_=(r && (y7 && t)) by
    rw [<- hr,<- ht];unfold QH;rw [<- hin.1,<- hin.2.2.2.1];by_cases g1:y1=c <;> by_cases g2:y2=d <;> simp [g1,g2])
   have HM:=D hm;have CV:=D (fun W' (hb':Below w.heap.size w W')=>(QG (Z yo yn yc) (Z pa pn pc) me_.p p' W' (hin.2.2.2.2.on hb') (HP.out.on hb') (OK.out _ (aK hm)) OP.out));rw [ht] at CV;clear px hy hr ht hm hin;cases r
   ·go_wp2
    go_roundw
    case rel=>exact⟨k+1,by omega,by go_num,BE.out.trans (NB.out.mono BE.out.size),fun j y' hj h1=>by
     rcases Y j k with h3|h3
     ·exact AL.out j y' h3 h1
     ·obtain rfl:j=k:=by omega
      have e1:=HM.out;rw [h1] at e1;rw [U e1];exact HV.out.trans (by simp)⟩
    case measure=>simp [intOf]; omega
   ·cases y7
    ·go_wp2
     go_roundw
     case rel=>exact⟨k+1,by omega,by go_num,BE.out.trans (NB.out.mono BE.out.size),fun j y' hj h1=>by
     rcases Y j k with h3|h3
     ·exact AL.out j y' h3 h1
     ·obtain rfl:j=k:=by omega
      have e1:=HM.out;rw [h1] at e1;rw [U e1];exact HV.out.trans (by simp)⟩
     case measure=>simp [intOf]; omega
    ·have BF:=D (BE.out.trans (NB.out.mono BE.out.size));have CW:=D (CV.out _ (B.out.trans (BF.out.mono B.out.size)));clear CV;go_wp2_with fail;refine CW.out.mono ?_;rintro e3 w3 ⟨rfl,hb⟩;have BG:=D (BF.out.trans (hb.mono BF.out.size));clear CW hb x0 x1 p0 p1 p2 p3 p4 p5 p6 ix he;cases t
     ·go_wp2
      go_roundw
      case rel=>exact⟨k+1,by omega,by go_num,BG.out,fun j y' hj h1=>by
     rcases Y j k with h3|h3
     ·exact AL.out j y' h3 h1
     ·obtain rfl:j=k:=by omega
      have e1:=HM.out;rw [h1] at e1;rw [U e1];exact HV.out.trans (by simp)⟩
      case measure=>simp [intOf]; omega
     ·go_wp2;go_ret;have hd:eP m (c,d) p'=aT:=by
       unfold eP;rw [aS];exact⟨me_,aK HM.out,HV.out.trans (by simp)⟩
      exact⟨by rw [hd]; rfl,B.out.trans (BG.out.mono B.out.size)⟩
  ·obtain rfl:k=n:=by omega
   go_wp2;go_ret;have hd:eP m (c,d) p'=aN:=by
    unfold eP;rw [aR];intro e he;obtain⟨j,hj,hje⟩:=aL he;have h9:=AL.out j e (by rw [<- HN.out,HU.out.len]; exact hj) (by rw [O hj,hje]);simpa using h9
   exact⟨by rw [hd]; rfl,B.out.trans (BE.out.mono B.out.size)⟩
def iH {κ:Type} [DecidableEq κ]:List κ->κ->Int
 | [],_=>-1
 | a::l,x=>if a=x then 0 else if iH l x=-1 then -1 else iH l x+1
theorem tZ {κ:Type} [DecidableEq κ] (l:List κ) (x:κ) (h:∀ (j:Nat) (y:κ),l[j]?=ak y->y≠x):iH l x=-1:=by
 induction l with
 | nil=>rfl
 | cons a l ih=>rw [iH,if_neg (h 0 a rfl),ih fun j y hj=>h (j+1) y (by simpa using hj),if_pos rfl]
theorem Gd {κ:Type} [DecidableEq κ] (l:List κ) (k:Nat) (x:κ) (h:l[k]?=ak x) (hall:∀ (j:Nat) (z:κ),j<k->l[j]?=ak z->z≠x):iH l x=k:=by
 induction l generalizing k with
 | nil=>simp at h
 | cons a l ih =>
  cases k with
  | zero =>
   obtain rfl:a=x:=by simpa using h
   rw [iH,if_pos rfl]
   rfl
  | succ k =>
   have h2:=ih k (by simpa using h) fun j z hj hz=>hall (j+1) z (by omega) (by simpa using hz);rw [iH,if_neg (hall 0 a (by omega) rfl),h2,if_neg (by omega)];omega
theorem mG {κ:Type} [DecidableEq κ] (l:List κ) (x:κ):iH l x=-1\/∃ k:Nat,iH l x=k/\l[k]?=ak x:=by
 induction l with
 | nil=>exact Or.inl rfl
 | cons a l ih =>
  rw [iH];by_cases h:a=x
  ·rw [if_pos h];exact Or.inr ⟨0,rfl,by rw [h]; rfl⟩
  ·rw [if_neg h];rcases ih with h2|⟨k,h2,h3⟩
   ·rw [if_pos h2];exact Or.inl rfl
   ·rw [if_neg (by omega),h2];exact Or.inr ⟨k+1,by omega,by simpa using h3⟩
abbrev iF (e:iB):Id×Id:=((e.1,e.2.1),(e.2.2.1,e.2.2.2.1))
theorem yU (me:Int) (nv av sv ov:aO) (ev:Sl) (l:List iB) (x z:Id) (w:aP) (hs:jX w (dK ev) l) :
  bf aC 91 #[.agg #[J K me,nv,av,sv,dK ev,ov],lZ x,lZ z] w fun e w'=>e=.returned (J K (iH (l.map iF) (x,z)))/\Below w.heap.size w w':=by
 obtain⟨c,d⟩:=x;obtain⟨g,h⟩:=z;obtain⟨so,sn,sc⟩:=ev;obtain⟨ao,ac,hv⟩:=hs.len;have hv:Z so sn sc=Z ao l.length ac:=hv;obtain⟨rfl,rfl,rfl⟩:so=ao/\sn=l.length/\sc=ac:=by simpa using hv
 obtain⟨h0,h1,h2,h3⟩:=gL w #[J K me,nv,av,sv,Z so l.length sc,ov] #[J K c,J K d] #[J K g,J K h] 33 38 38;have B:=D h0;have HS:=D (hs.on h0);have X2:=D h1;have X3:=D h2;have X4:=D h3;have lm:=hs.most;unfold maxLen at lm;obtain⟨n,hn⟩:∃ n,n=l.length:=⟨_,rfl⟩;have q3:=h1.cell 4;simp only [aH,aD,aF] at q3;rw [<- hn] at HS X2 lm q3 B X3 X4 ⊢;have HN:=D hn.symm;clear h0 h1 h2 h3 hs hv hn;go_enter Tryz.func91,Tryz.ntmps91;go_upto_region 1 with fail;generalize ((w.alloc (aj #[J K me,nv,av,sv,Z so n sc,ov] 33)).alloc (aj #[J K c,J K d] 38)).alloc (aj #[J K g,J K h] 38)=W at *;go_wp2
 go_loopw [12] (fun i wr=>∃ k:Nat,k<=n/\i=J K k/\Below W.heap.size W wr/\∀ (j:Nat) (y:iB),j<k->l[j]?=ak y->iF y≠((c,d),(g,h))) (fun i _=>n-(intOf i).toNat)
 case atStart=>exact⟨0,aJ _,rfl,Below.refl _ _,fun j y h=>by omega⟩
 case round =>
  obtain⟨k,hk,rfl,hbe,hall⟩:=hrel;have BE:=D hbe;have AL:=D hall;clear hbe hall;by_cases hlt:k<n
  ·obtain⟨y,hy⟩:∃ y,l[k]?=ak y:=⟨_,O (by rw [HN.out]; exact hlt)⟩;obtain⟨p,ix,px⟩:=Pq HS.out rfl HN.out hy;obtain⟨p0,p1,p2,p3,p4,p5,p6⟩:=px wr BE.out;obtain⟨y1,y2,y3,y4,⟨yo,yn,yc⟩,y6,y7⟩:=y;simp only at p0 p1 p2 p3 p4 p5 p6;have NB:=D (fT wr (aj #[J K y1,J K y2,J K y3,J K y4,Z yo yn yc,J K y6,aY y7] 68));obtain⟨x0,x1⟩:=((X3.out.on BE.out).on NB.out).cs2;obtain⟨z0,z1⟩:=((X4.out.on BE.out).on NB.out).cs2;have hw3:IntKind.i64.wrap ((k:Int)+1)=(k:Int)+1:=IntWalk.i64_in _ (by omega);obtain⟨r,hr⟩:∃ r,(y1 == c && y2 == d)=r:=⟨_,rfl⟩;obtain⟨t,ht⟩:∃ r,(y3 == g && y4 == h)=r:=⟨_,rfl⟩;have he:=rG y1 y2 c d r hr;have hf:=rG y3 y4 g h t ht;have HY:=D hy;have HR:=D hr;have HT:=D ht;clear px hy hr ht;cases r
   ·go_wp2
    go_roundw
    case rel=>exact⟨k+1,by omega,by go_num,BE.out.trans (NB.out.mono BE.out.size),fun j y' hj h1=>by
     rcases Y j k with h3|h3
     ·exact AL.out j y' h3 h1
     ·obtain rfl:j=k:=by omega
      have e1:=HY.out;rw [h1] at e1;rw [U e1];intro e;obtain⟨⟨rfl,rfl⟩,_⟩:(y1=c/\y2=d)/\(y3=g/\y4=h):=by simpa [iF] using e
      have:=HR.out;simp at this⟩
    case measure=>simp [intOf]; omega
   ·cases t
    ·go_wp2
     go_roundw
     case rel=>exact⟨k+1,by omega,by go_num,BE.out.trans (NB.out.mono BE.out.size),fun j y' hj h1=>by
      rcases Y j k with h3|h3
      ·exact AL.out j y' h3 h1
      ·obtain rfl:j=k:=by omega
       have e1:=HY.out;rw [h1] at e1;rw [U e1];intro e;obtain⟨_,rfl,rfl⟩:(y1=c/\y2=d)/\(y3=g/\y4=h):=by simpa [iF] using e
       have:=HT.out;simp at this⟩
     case measure=>simp [intOf]; omega
    ·go_wp2;go_ret;have h8:=HR.out;have h9:=HT.out;obtain⟨rfl,rfl⟩:y1=c/\y2=d:=by simpa using h8
     obtain⟨rfl,rfl⟩:y3=g/\y4=h:=by simpa using h9
     exact⟨by rw [Gd (l.map iF) k ((y1,y2),(y3,y4)) (by rw [ah,HY.out]; rfl) (fun j z hj hz=>by
      rw [ah] at hz;cases hl:l[j]? with
      | none=>rw [hl] at hz; cases hz
      | some q =>
       rw [hl] at hz;have hz:iF q=z:=U hz;rw [<- hz];exact AL.out j q hj hl)]; rfl,B.out.trans ((BE.out.trans (NB.out.mono BE.out.size)).mono B.out.size)⟩
  ·obtain rfl:k=n:=by omega
   go_wp2;go_ret;have hd:iH (l.map iF) ((c,d),(g,h))=-1:=tZ _ _ fun j z hz=>by
    rw [ah] at hz;cases hl:l[j]? with
    | none=>rw [hl] at hz; cases hz
    | some q =>
     rw [hl] at hz;have hz:iF q=z:=U hz;rw [<- hz];exact AL.out j q (by rw [<- HN.out]; exact (aA.1 hl).1) hl
   exact⟨by rw [hd]; rfl,B.out.trans (BE.out.mono B.out.size)⟩
end Bk
namespace Bk
open Go.RowKit Go.Sort Rw YtkcfgbddlpomgaaGreat.Nm Pr
theorem wu {κ:Type} (f:κ->Bool) (l:List κ) (k:Nat) (hall:∀ (j:Nat) (y:κ),j<k->l[j]?=ak y->f y=aT) (hend:k=l.length\/∃ y,l[k]?=ak y/\f y=aN):(l.takeWhile f).length=k:=by
 induction l generalizing k with
 | nil =>
  rcases hend with h|⟨y,h,_⟩
  ·rw [h]; rfl
  ·simp at h
 | cons a l ih =>
  cases k with
  | zero =>
   rcases hend with h|⟨y,h,h2⟩
   ·simp at h
   ·obtain rfl:a=y:=by simpa using h
    rw [aM,h2]
    rfl
  | succ k =>
   have h0:=hall 0 a (by omega) rfl;rw [aM,h0];simp only [if_true,List.length_cons];rw [ih k (fun j y hj hy=>hall (j+1) y (by omega) (by simpa using hy)) (by
    rcases hend with h|⟨y,h,h2⟩
    ·exact Or.inl (by simpa using h)
    ·exact Or.inr ⟨y,by simpa using h,h2⟩)]
def iZ (a b:Id×Id):Bool:=dY a.1 b.1 || (eqI a.1 b.1 && dY a.2 b.2)
def eG (l:List (Id×Id)) (x:Id×Id):Nat:=(l.takeWhile fun a=>iZ a x).length
noncomputable def abP:Code:=((Tryz.f57.body.bind (gV 0)).getD .skip)
theorem wB (Q:Exit->Act->aP->Prop) (W:aP) (b2 b3:Nat) (me c d g h:Int) (y1_ y2_ y3_ y5_ p3' p4' p5':aO) (so:Option Addr) (n sc:Nat) (l:List iB) (u0 u1 u4 u5 u6 u8 u9 u10 u11 u12 u13 u14 u15 u16 u17 u18 u19 u20 u21 u22 u23 u24 u25 u26 u27 u28 u29 u30 u31 u32 u33 u34 u35 u36 u37 u38 u39 u40 u41 u42 u43 u44 u45 u46 u47 u48 u49 u50 u51 u52 u53 u54 u55 u56 u57 u58 u59 u60 u61 u62 u63 u64 u65 u66 u67 u68 u69 u70 u71 u72 u73 u74 u75 u76 u77 u78 u79 u80 u81 u82 u83 u84 u85 u86 u87 u88 u89 u90 u91 u92 u93 u94 u95 u96 u97 u98 u99 u100 u101 u102 u103 u104 u105 u106 u107 u108 u109 u110 u111 u112 u113 u114:aO)
  (h2:dG W b2 #[J K me,y1_,y2_,y3_,Z so n sc,y5_] 33) (h3:dG W b3 #[J K c,J K d,J K g,J K h,p3',p4',p5'] 68) (hs:jX W (Z so n sc) l) (hn:n=l.length) (hm:n<=1000000)
  (hQ:∀ (wr:aP) (v57 v58 v59 v60 v61 v62 v63 v64 v65 v66 v67 v68 v69 v70 v71 v72 v73 v74 v75 v76 v77 v78 v79 v80 v81 v82 v83 v84 v85 v86 v87 v88 v89 v90 v91 v92 v93 v94 v95 v96:aO),Below W.heap.size W wr->Q .normal ⟨(u0::u1::aX (ak ⟨b2,0,au⟩)::aX (ak ⟨b3,0,au⟩)::u4::u5::u6::J K (eG (l.map iF) ((c,d),(g,h)):Nat)::u8::u9::u10::u11::u12::u13::u14::u15::u16::u17::u18::u19::u20::u21::u22::u23::u24::u25::u26::u27::u28::u29::u30::u31::u32::u33::u34::u35::u36::u37::u38::u39::u40::u41::u42::u43::u44::u45::u46::u47::u48::u49::u50::u51::u52::u53::u54::u55::u56::v57::v58::v59::v60::v61::v62::v63::v64::v65::v66::v67::v68::v69::v70::v71::v72::v73::v74::v75::v76::v77::v78::v79::v80::v81::v82::v83::v84::v85::v86::v87::v88::v89::v90::v91::v92::v93::v94::v95::v96::u97::u98::u99::u100::u101::u102::u103::u104::u105::u106::u107::u108::u109::u110::u111::u112::u113::u114::[]).toArray,[]⟩ wr) :
  Code.wp aC abP Q ⟨(u0::u1::aX (ak ⟨b2,0,au⟩)::aX (ak ⟨b3,0,au⟩)::u4::u5::u6::J K 0::u8::u9::u10::u11::u12::u13::u14::u15::u16::u17::u18::u19::u20::u21::u22::u23::u24::u25::u26::u27::u28::u29::u30::u31::u32::u33::u34::u35::u36::u37::u38::u39::u40::u41::u42::u43::u44::u45::u46::u47::u48::u49::u50::u51::u52::u53::u54::u55::u56::u57::u58::u59::u60::u61::u62::u63::u64::u65::u66::u67::u68::u69::u70::u71::u72::u73::u74::u75::u76::u77::u78::u79::u80::u81::u82::u83::u84::u85::u86::u87::u88::u89::u90::u91::u92::u93::u94::u95::u96::u97::u98::u99::u100::u101::u102::u103::u104::u105::u106::u107::u108::u109::u110::u111::u112::u113::u114::[]).toArray,[]⟩ W:=by
 have HQ:=D hQ;have H2:=D h2;have H3:=D h3;have HS:=D hs;have HN:=D hn;clear hQ h2 h3 hs hn
 conv=>arg 2; whnf
 go_wp2
 go_loopw [7] (fun i wr=>∃ k:Nat,k<=n/\i=J K k/\Below W.heap.size W wr/\∀ (j:Nat) (y:Id×Id),j<k->(l.map iF)[j]?=ak y->iZ y ((c,d),(g,h))=aT) (fun i _=>n-(intOf i).toNat)
 case atStart=>exact⟨0,aJ _,rfl,Below.refl _ _,fun j y h=>by omega⟩
 case round =>
  obtain⟨k,hk,rfl,hbe,hall⟩:=hrel;have BE:=D hbe;have AL:=D hall;clear hbe hall;have q0:=X (show wr.cell? ⟨b2,4,au⟩=ak (Z so n sc) from (H2.out.on BE.out).cell 4);have r0:=X (show wr.cell? ⟨b3,0,au⟩=ak (J K c) from (H3.out.on BE.out).cell 0);have r1:=X (show wr.cell? ⟨b3,1,au⟩=ak (J K d) from (H3.out.on BE.out).cell 1);have r2:=X (show wr.cell? ⟨b3,2,au⟩=ak (J K g) from (H3.out.on BE.out).cell 2);have r3:=X (show wr.cell? ⟨b3,3,au⟩=ak (J K h) from (H3.out.on BE.out).cell 3);have hw3:IntKind.i64.wrap ((k:Int)+1)=(k:Int)+1:=IntWalk.i64_in _ (by omega);by_cases hlt:k<n
  ·obtain⟨y,hy⟩:∃ y,l[k]?=ak y:=⟨_,O (by rw [<- HN.out]; exact hlt)⟩;obtain⟨p,ix,px⟩:=Pq HS.out rfl HN.out.symm hy;have xI:=px wr BE.out;obtain⟨y1,y2,y3,y4,⟨yo,yn,yc⟩,y6,y7⟩:=y;simp only at xI;have p0:=X xI.1;have p1:=X xI.2.1;have p2:=X xI.2.2.1;have p3:=X xI.2.2.2.1;have wW:decide ((k:Int)<(n:Int))=aT:=decide_eq_true (by omega);have AO:decide (k<n)=aT:=decide_eq_true hlt;obtain⟨r,hr⟩:∃ r,dY (y1,y2) (c,d)=r:=⟨_,rfl⟩;obtain⟨t,ht⟩:∃ r,(y1 == c && y2 == d)=r:=⟨_,rfl⟩;obtain⟨s,hs⟩:∃ r,dY (y3,y4) (g,h)=r:=⟨_,rfl⟩;have he:=rG y1 y2 c d t ht;have LS:=D (fun d' os=>Calls.regrown_of (d:=d') (os:=os) ((rH (y1,y2) (c,d) (grow (aW wr d') os)).mono fun _ _ h=>⟨by rw [h.1,hr],h.2⟩));have LT:=D (fun d' os=>Calls.regrown_of (d:=d') (os:=os) ((rH (y3,y4) (g,h) (grow (aW wr d') os)).mono fun _ _ h=>⟨by rw [h.1,hs],h.2⟩));have HY:=D (show (l.map iF)[k]?=ak ((y1,y2),(y3,y4)) by rw [ah,hy]; rfl);have HV:=D (show iZ ((y1,y2),(y3,y4)) ((c,d),(g,h))=(r || (t && s)) by rw [<- hr,<- ht,<- hs]; rfl);clear px xI hy hr ht hs;cases r
   ·cases t
    ·have HR:=D (HV.out.trans (show _=aN by simp));go_wp2_with fail;refine wp_region_quiet_below (by kernel_rfl) (by kernel_rfl) ?_
     repeat (go_big_quiet_step (first | (with_reducible exact LS.out _ _) | (with_reducible exact LT.out _ _)))
     refine wpQuiet_nil ?_;intro _ hw';obtain⟨⟨dq,osq⟩,hw''⟩:=hw';subst hw'';have Z6:=ay wr dq osq;have HF:=D (fun v57 v58 v59 v60 v61 v62 v63 v64 v65 v66 v67 v68 v69 v70 v71 v72 v73 v74 v75 v76 v77 v78 v79 v80 v81 v82 v83 v84 v85 v86 v87 v88 v89 v90 v91 v92 v93 v94 v95 v96=>HQ.out (grow (aW wr dq) osq) v57 v58 v59 v60 v61 v62 v63 v64 v65 v66 v67 v68 v69 v70 v71 v72 v73 v74 v75 v76 v77 v78 v79 v80 v81 v82 v83 v84 v85 v86 v87 v88 v89 v90 v91 v92 v93 v94 v95 v96 (BE.out.trans (Z6.mono BE.out.size)));rw [show eG (l.map iF) ((c,d),(g,h))=k from wu _ _ k AL.out (Or.inr ⟨_,HY.out,HR.out⟩)] at HF;clear ix HQ q0 r0 r1 r2 r3 LS LT wW AO p0 p1 p2 p3 he;go_wp2;exact HF.out _ _ _ _ _ _ _ _ _ _ _ _ _ _ _ _ _ _ _ _ _ _ _ _ _ _ _ _ _ _ _ _ _ _ _ _ _ _ _ _
    ·cases s
     ·have HR:=D (HV.out.trans (show _=aN by simp));go_wp2_with fail;refine wp_region_quiet_below (by kernel_rfl) (by kernel_rfl) ?_
      repeat (go_big_quiet_step (first | (with_reducible exact LS.out _ _) | (with_reducible exact LT.out _ _)))
      refine wpQuiet_nil ?_;intro _ hw';obtain⟨⟨dq,osq⟩,hw''⟩:=hw';subst hw'';have Z6:=ay wr dq osq;have HF:=D (fun v57 v58 v59 v60 v61 v62 v63 v64 v65 v66 v67 v68 v69 v70 v71 v72 v73 v74 v75 v76 v77 v78 v79 v80 v81 v82 v83 v84 v85 v86 v87 v88 v89 v90 v91 v92 v93 v94 v95 v96=>HQ.out (grow (aW wr dq) osq) v57 v58 v59 v60 v61 v62 v63 v64 v65 v66 v67 v68 v69 v70 v71 v72 v73 v74 v75 v76 v77 v78 v79 v80 v81 v82 v83 v84 v85 v86 v87 v88 v89 v90 v91 v92 v93 v94 v95 v96 (BE.out.trans (Z6.mono BE.out.size)));rw [show eG (l.map iF) ((c,d),(g,h))=k from wu _ _ k AL.out (Or.inr ⟨_,HY.out,HR.out⟩)] at HF;clear ix HQ q0 r0 r1 r2 r3 LS LT wW AO p0 p1 p2 p3 he;go_wp2;exact HF.out _ _ _ _ _ _ _ _ _ _ _ _ _ _ _ _ _ _ _ _ _ _ _ _ _ _ _ _ _ _ _ _ _ _ _ _ _ _ _ _
     ·have HR:=D (HV.out.trans (show _=aT by simp));go_wp2_with fail;refine wp_region_quiet_below (by kernel_rfl) (by kernel_rfl) ?_
      repeat (go_big_quiet_step (first | (with_reducible exact LS.out _ _) | (with_reducible exact LT.out _ _)))
      refine wpQuiet_nil ?_;intro _ hw';obtain⟨⟨dq,osq⟩,hw''⟩:=hw';subst hw'';have Z6:=D (ay wr dq osq);clear ix q0 r0 r1 r2 r3 LS LT wW AO p0 p1 p2 p3 he;go_wp2
      go_roundw
      case rel=>exact⟨k+1,by omega,by go_num,BE.out.trans (Z6.out.mono BE.out.size),fun j y' hj h1=>by
       rcases Y j k with h3|h3
       ·exact AL.out j y' h3 h1
       ·obtain rfl:j=k:=by omega
        have e1:=HY.out;rw [h1] at e1;rw [U e1];exact HR.out⟩
      case measure=>simp [intOf]; omega
   ·have HR:=D (HV.out.trans (show _=aT by simp));go_wp2_with fail;refine wp_region_quiet_below (by kernel_rfl) (by kernel_rfl) ?_
    repeat (go_big_quiet_step (first | (with_reducible exact LS.out _ _) | (with_reducible exact LT.out _ _)))
    refine wpQuiet_nil ?_;intro _ hw';obtain⟨⟨dq,osq⟩,hw''⟩:=hw';subst hw'';have Z6:=D (ay wr dq osq);clear ix q0 r0 r1 r2 r3 LS LT wW AO p0 p1 p2 p3 he;go_wp2
    go_roundw
    case rel=>exact⟨k+1,by omega,by go_num,BE.out.trans (Z6.out.mono BE.out.size),fun j y' hj h1=>by
     rcases Y j k with h3|h3
     ·exact AL.out j y' h3 h1
     ·obtain rfl:j=k:=by omega
      have e1:=HY.out;rw [h1] at e1;rw [U e1];exact HR.out⟩
    case measure=>simp [intOf]; omega
  ·obtain rfl:n=k:=by omega
   have wW:decide ((n:Int)<(n:Int))=aN:=by simp
   have AO:decide (n<n)=aN:=by simp
   go_wp2_with fail;refine wp_region_quiet_below (by kernel_rfl) (by kernel_rfl) ?_
   repeat (go_big_quiet_step (fail))
   refine wpQuiet_nil ?_;intro _ hw';obtain⟨⟨dq,osq⟩,hw''⟩:=hw';subst hw'';have Z6:=ay wr dq osq;have HF:=D (fun v57 v58 v59 v60 v61 v62 v63 v64 v65 v66 v67 v68 v69 v70 v71 v72 v73 v74 v75 v76 v77 v78 v79 v80 v81 v82 v83 v84 v85 v86 v87 v88 v89 v90 v91 v92 v93 v94 v95 v96=>HQ.out (grow (aW wr dq) osq) v57 v58 v59 v60 v61 v62 v63 v64 v65 v66 v67 v68 v69 v70 v71 v72 v73 v74 v75 v76 v77 v78 v79 v80 v81 v82 v83 v84 v85 v86 v87 v88 v89 v90 v91 v92 v93 v94 v95 v96 (BE.out.trans (Z6.mono BE.out.size)));rw [show eG (l.map iF) ((c,d),(g,h))=n from wu _ _ n AL.out (Or.inl (by simpa using HN.out))] at HF;clear HQ q0 r0 r1 r2 r3 wW AO;go_wp2;exact HF.out _ _ _ _ _ _ _ _ _ _ _ _ _ _ _ _ _ _ _ _ _ _ _ _ _ _ _ _ _ _ _ _ _ _ _ _ _ _ _ _
end Bk
end Go.Proofs.YtkcfgbddlpomgaaGreat
