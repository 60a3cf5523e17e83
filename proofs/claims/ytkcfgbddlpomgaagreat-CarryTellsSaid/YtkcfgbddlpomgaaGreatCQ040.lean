/-
  ahead, place and bra. Conditions as told.
-/
import Derived.Test.YtkcfgbddlpomgaaGreatCQ036
import Derived.Shelf.Abstract
import Derived.Test.YtkcfgbddlpomgaaGreatCQ021
set_option maxRecDepth 100000
set_option maxHeartbeats 64000000
open _root_.Bool renaming false->aL,eq_false_iff->aR,true->aS
open _root_.Go renaming cell_regrown->K,World->aI,redrawn->aN,Calls->aQ,below_regrown->aT,Value->aY,Addr->bD
open Go.Ending renaming returned->V
open Go.IntKind renaming i64->O
open Go.Lib renaming hid->D
open Go.Obj renaming cells->au
open Go.Proofs.Tryz renaming prog->ah,ntmps82->bg,func82->bn,func81->bA,func79->bC
open Go.Value renaming int->L,slice->aj,pointer->ay,bool->aJ
open _root_.List renaming getElem?_eq_getElem->J,getElem?_eq_some_iff->U,getElem?_cons_zero->ak,getElem?_toArray->aA,takeWhile_sublist->aB,mem_of_getElem?->aD,length_take->aG,takeWhile_cons->aH,getElem?_cons_succ->aK,length_drop->aM,getElem?_drop->aP,take_append_drop->aV,getElem?_map->aZ,length_cons->bf
open _root_.Nat renaming lt_or_ge->aO,le_trans->aU,zero_le->aW,le_refl->aX
open _root_.Option renaming some->Q,none->aF
open Option.some renaming inj->aC
namespace Go.Proofs.YtkcfgbddlpomgaaGreat
namespace Sb
open Go.RowKit Go.Sort Rw YtkcfgbddlpomgaaGreat.Nm Pr Bk Av
theorem Oj (x:iB) (t s:eF) (r:Bool) (hr:iZ (iF x) (t,s)=r) (w:aI):aQ ah 82 #[qX x,lZ t,lZ s] w fun e w'=>e=V (aJ r)/\Below w.heap.size w w':=by
 obtain⟨y1,y2,y3,y4,⟨yo,yn,yc⟩,y6,y7⟩:=x;obtain⟨c,d⟩:=t;obtain⟨g,h⟩:=s;obtain⟨h0,X,Y,Z⟩:=gL w #[L O y1,L O y2,L O y3,L O y4,aj yo yn yc,L O y6,aJ y7] #[L O c,L O d] #[L O g,L O h] 68 38 38;have x1:=X.cell 1;have x0:=X.cell 0;have x2:=X.cell 2;have x3:=X.cell 3;obtain⟨c0,c1⟩:=Y.cs2;obtain⟨d0,d1⟩:=Z.cs2;simp only [aA,ak,aK] at x0 x1 x2 x3;have C1:=wL (y1,y2) (c,d);have C2:=wL (y3,y4) (g,h);have B:=D h0;have he:iZ ((y1,y2),(y3,y4)) ((c,d),(g,h))=if ((y1,y2):eF)=(c,d) then dY (y3,y4) (g,h) else dY (y1,y2) (c,d):=by
  unfold iZ;by_cases q:((y1,y2):eF)=(c,d)
  ·rw [if_pos q,q,jY,(xY _ _).2 rfl]; rfl
  ·rw [if_neg q,aR.2 fun q2=>q ((xY _ _).1 q2)]; simp
 clear h0 X Y Z;by_cases q:((y1,y2):eF)=(c,d)
 ·have hr2:=D (show dY (y3,y4) (g,h)=r by rw [<- hr]; show _=iZ ((y1,y2),(y3,y4)) ((c,d),(g,h)); rw [he,if_pos q]);obtain⟨rfl,rfl⟩:y1=c/\y2=d:=by simpa using q
  have hne:=Vo y1 y2 y1 y2 aL (by simp);clear he hr q;go_enter bn,bg;go_wp2_with fail;refine (C2 _).mono ?_;rintro e w1 ⟨rfl,hb⟩;go_wp2;go_ret;exact⟨congrArg (fun b=>V (aJ b)) hr2.out,B.out.trans (hb.mono B.out.size)⟩
 ·have hr2:=D (show dY (y1,y2) (c,d)=r by rw [<- hr]; show _=iZ ((y1,y2),(y3,y4)) ((c,d),(g,h)); rw [he,if_neg q]);have hne:=Vo y1 y2 c d aS (by rw [show (y1 == c && y2 == d)=aL from aR.2 fun h=>q (by simp at h; rw [h.1,h.2])]; rfl);clear he hr q;go_enter bn,bg;go_wp2_with fail;refine (C1 _).mono ?_;rintro e w1 ⟨rfl,hb⟩;go_wp2;go_ret;exact⟨congrArg (fun b=>V (aJ b)) hr2.out,B.out.trans (hb.mono B.out.size)⟩
theorem zK (g:Nat) (cb:Array aY) (eg:∀ args w,(callFunc g args).run ah w=.ok (.enter g args) w) (n k:Nat) (p:Nat->Bool) (w:aI) (hn:n<=1000000)
  (hf:∀ i,i<n->∀ W,Below w.heap.size w W->aQ ah g (#[L O i]++cb) W fun e w'=>e=V (aJ (p i))/\Below W.heap.size W w')
  (hk:k<=n) (hlo:∀ i,i<k->p i=aL) (hhi:∀ i,k<=i->i<n->p i=aS) :
  aQ ah 78 #[L O n,.func (.func g) #[] cb] w fun e w'=>e=V (L O k)/\Below w.heap.size w w':=by
 have HF:=D hf;have LO:=D hlo;have HI:=D hhi;clear hf hlo hhi;go_enter Tryz.func78,Tryz.ntmps78;go_wp2
 go_loopg [5,6] n (fun kx s5 s6 wr=>∃ lo hi:Nat,s5=L O lo/\s6=L O hi/\lo<=k/\k<=hi/\hi<=n/\hi-lo<=kx/\Below w.heap.size w wr)
 case atStart=>exact⟨0,n,rfl,rfl,aW _,hk,aX _,by omega,Below.refl _ _⟩
 case round =>
  obtain⟨lo,hi,rfl,rfl,hlk,hkh,hin,hg,hb⟩:=hrel;have B:=D hb;clear hb;by_cases hlt:lo<hi
  ·have hc:=HF.out ((lo+hi) / 2) (by omega) wr B.out;rw [show (((lo+hi) / 2:Nat):Int)=((lo:Int)+(hi:Int)) / 2 by omega] at hc;cases hp:p ((lo+hi) / 2) <;> rw [hp] at hc
   ·have HP:=D hp;have HK:=D (show (lo+hi) / 2+1<=k from by
     rcases aO ((lo+hi) / 2) k with h|h
     ·exact h
     ·have:=HI.out _ h (by omega); rw [hp] at this; cases this)
    clear hp;go_wp2_with (go_at_fn g; refine hc.mono ?_; rintro e w' ⟨rfl,hb2⟩)
    go_roundg (hi-((lo+hi) / 2+1))
    case measure=>omega
    case rel=>exact⟨(lo+hi) / 2+1,hi,by rw [show ((lo:Int)+(hi:Int)) / 2+1=(((lo+hi) / 2+1:Nat):Int) by omega],rfl,HK.out,hkh,hin,aX _,B.out.trans (hb2.mono B.out.size)⟩
   ·have HP:=D hp;have HK:=D (show k<=(lo+hi) / 2 from by
     rcases aO ((lo+hi) / 2) k with h|h
     ·have:=LO.out _ h; rw [hp] at this; cases this
     ·exact h)
    clear hp;go_wp2_with (go_at_fn g; refine hc.mono ?_; rintro e w' ⟨rfl,hb2⟩)
    go_roundg ((lo+hi) / 2-lo)
    case measure=>omega
    case rel=>exact⟨lo,(lo+hi) / 2,rfl,by rw [show ((lo:Int)+(hi:Int)) / 2=(((lo+hi) / 2:Nat):Int) by omega],hlk,HK.out,by omega,aX _,B.out.trans (hb2.mono B.out.size)⟩
  ·obtain rfl:hi=lo:=by omega
   obtain rfl:hi=k:=by omega
   go_wp2;go_ret;exact⟨rfl,B.out⟩
theorem zL {W W1:aI} {v:aY} {l:List iB} {ao:Option bD} {n c k:Nat} {x:iB} (h:jX W v l) (hv:v=aj ao n c) (hn:l.length=n) (hk:l[k]?=Q x) (hb:Below W.heap.size W W1) :
  ∃ p:bD,(∀ w,(Instr.indexAt 30 (aj ao n c) (L O k)).run ah w=.ok (ay (Q p)) w) /\
   (∀ d os,(grow (aN W1 d) os).cell? p=Q (L O x.1))/\(∀ d os,(grow (aN W1 d) os).cell? ⟨p.block,p.off+1,aF⟩=Q (L O x.2.1)) /\
   (∀ d os,(grow (aN W1 d) os).cell? ⟨p.block,p.off+2,aF⟩=Q (L O x.2.2.1))/\(∀ d os,(grow (aN W1 d) os).cell? ⟨p.block,p.off+3,aF⟩=Q (L O x.2.2.2.1)) /\
   (∀ d os,(grow (aN W1 d) os).cell? ⟨p.block,p.off+4,aF⟩=Q (dK x.2.2.2.2.1))/\(∀ d os,(grow (aN W1 d) os).cell? ⟨p.block,p.off+5,aF⟩=Q (L O x.2.2.2.2.2.1)) /\
   (∀ d os,(grow (aN W1 d) os).cell? ⟨p.block,p.off+6,aF⟩=Q (aJ x.2.2.2.2.2.2)):=by
 obtain⟨p,h1,h2⟩:=Pq h hv hn hk;obtain⟨c0,c1,c2,c3,c4,c5,c6⟩:=h2 _ hb;exact⟨p,h1,K c0,K c1,K c2,K c3,K c4,K c5,K c6⟩
theorem Wq (args:Array aY) (w:aI):(callFunc 81 args).run ah w=.ok (.enter 81 args) w:=fK bA rfl rfl args w
theorem Ws (args:Array aY) (w:aI):(callFunc 79 args).run ah w=.ok (.enter 79 args) w:=fK bC rfl rfl args w
theorem Wt (i:Nat) (b1 b2 b3:Nat) (ao:Option bD) (n ac:Nat) (l:List iB) (t s:eF) (y:iB) (r:Bool) (w:aI) (hv:jX w (aj ao n ac) l) (hn:l.length=n) (hy:l[i]?=Q y) (hr:(!iZ (iF y) (t,s))=r)
  (h1:dG w b1 #[aj ao n ac] 30) (h2:dG w b2 #[L O t.1,L O t.2] 38) (h3:dG w b3 #[L O s.1,L O s.2] 38) :
  aQ ah 81 #[L O i,ay (Q ⟨b1,0,aF⟩),ay (Q ⟨b2,0,aF⟩),ay (Q ⟨b3,0,aF⟩)] w fun e w'=>e=V (aJ r)/\Below w.heap.size w w':=by
 obtain⟨p,ix,p0,p1,p2,p3,p4,p5,p6⟩:=zL hv rfl hn hy (Below.refl _ _);have a0:=K (h1.cell 0);have b0:=K (h2.cell 0);have b1':=K (h2.cell 1);have c0:=K (h3.cell 0);have c1:=K (h3.cell 1);obtain⟨q,hq⟩:∃ q,iZ (iF y) (t,s)=q:=⟨_,rfl⟩;have C:∀ k os,aQ ah 82 #[qX y,lZ t,lZ s] (grow (aN w k) os) fun e w''=>e=V (aJ q)/\∃ p:Regrown,w''=grow (aN w p.d) p.os:=fun k os=>Calls.regrown_of (Oj y t s q hq _);rw [hq] at hr;have R:=D hr;have BN:=D (fun dq osq=>aT w dq osq);obtain⟨y1,y2,y3,y4,⟨yo,yn,yc⟩,y6,y7⟩:=y;obtain⟨c,d⟩:=t;obtain⟨g,h⟩:=s;simp only at p0 p1 p2 p3 p4 p5 p6 b0 b1' c0 c1 C;clear hv hn hy hr hq h1 h2 h3;go_enter bA,Tryz.ntmps81;go_wp2;refine wp_region_quiet_below (by kernel_rfl) (by kernel_rfl) ?_
 repeat (go_big_quiet_step (first | (with_reducible exact C _ _) | exact aaE _ _))
 refine wpQuiet_nil ?_;intro _ hw';obtain⟨⟨dq,osq⟩,hw''⟩:=hw';subst hw'';go_wp2;go_ret;exact⟨congrArg (fun b=>V (aJ b)) R.out,BN.out _ _⟩
theorem Wu (i:Nat) (b1 b2:Nat) (ao:Option bD) (n ac:Nat) (l:List iB) (t:eF) (y:iB) (r:Bool) (w:aI) (hv:jX w (aj ao n ac) l) (hn:l.length=n) (hy:l[i]?=Q y) (hr:(!dY (y.1,y.2.1) t)=r)
  (h1:dG w b1 #[aj ao n ac] 30) (h2:dG w b2 #[L O t.1,L O t.2] 38) :
  aQ ah 79 #[L O i,ay (Q ⟨b1,0,aF⟩),ay (Q ⟨b2,0,aF⟩)] w fun e w'=>e=V (aJ r)/\Below w.heap.size w w':=by
 obtain⟨p,ix,p0,p1,p2,p3,p4,p5,p6⟩:=zL hv rfl hn hy (Below.refl _ _);have a0:=K (h1.cell 0);have b0:=K (h2.cell 0);have b1':=K (h2.cell 1);have C:∀ k os,aQ ah 80 #[lZ (y.1,y.2.1),lZ t] (grow (aN w k) os) fun e w''=>e=V (aJ (dY (y.1,y.2.1) t))/\∃ p:Regrown,w''=grow (aN w p.d) p.os:=fun k os=>Calls.regrown_of (wL (y.1,y.2.1) t _);generalize dY (y.1,y.2.1) t=q at *;have R:=D hr;have BN:=D (fun dq osq=>aT w dq osq);obtain⟨y1,y2,y3,y4,⟨yo,yn,yc⟩,y6,y7⟩:=y;obtain⟨c,d⟩:=t;simp only at p0 p1 p2 p3 p4 p5 p6 b0 b1' C;clear hv hn hy hr h1 h2 p2 p3 p4 p5 p6;go_enter bC,Tryz.ntmps79;go_wp2;refine wp_region_quiet_below (by kernel_rfl) (by kernel_rfl) ?_
 repeat (go_big_quiet_step (first | (with_reducible exact C _ _) | exact abq _ _))
 refine wpQuiet_nil ?_;intro _ hw';obtain⟨⟨dq,osq⟩,hw''⟩:=hw';subst hw'';go_wp2;go_ret;exact⟨congrArg (fun b=>V (aJ b)) R.out,BN.out _ _⟩
theorem rY {α:Type} {E:Ek α} {W:aI} {so:Option bD} {sn sc:Nat} {l:List α} (h:Row E W (aj so sn sc) l):l.length=sn:=by
 obtain⟨ao,ac,hv⟩:=h.len;simp at hv;exact hv.2.1.symm
theorem kD {W:aI} {l:List iB} {m:List En} (h:dX (iX W) l m) {i:Nat} {y:iB} (hy:l[i]?=Q y):∃ e,m[i]?=Q e/\iF y=eY e/\iX W y e:=by
 have hlt:=(U.1 hy).1;obtain⟨e,he⟩:∃ e,m[i]?=Q e:=⟨_,J (by rw [<- h.len]; exact hlt)⟩;obtain⟨y',hy',hx⟩:=h.at i e he;rw [hy] at hy';obtain rfl:=aC hy';exact⟨e,he,Prod.ext hx.1 hx.2.1,hx⟩
theorem Ol {m:List En} (hr:kC m) {i j:Nat} {x y:En} (hij:i<j) (hx:m[i]?=Q x) (hy:m[j]?=Q y):xL x y<0:=by
 obtain⟨h1,rfl⟩:=U.1 hx;obtain⟨h2,rfl⟩:=U.1 hy;exact List.pairwise_iff_getElem.1 hr i j h1 h2 hij
theorem kV (l:List (eF×eF)) (x:eF×eF):eG l x<=l.length:=(aB _).length_le
theorem vg {m:List En} (hr:kC m) (x:eF×eF) {i:Nat} {e:En} (hi:eG (m.map eY) x<=i) (he:m[i]?=Q e):iZ (eY e) x=aL:=by
 have hlt:=(U.1 he).1;obtain⟨z,hz⟩:∃ z,m[eG (m.map eY) x]?=Q z:=⟨_,J (by omega)⟩;have h0:=wR (m.map eY) x (eY z) (by rw [aZ,hz]; rfl);rcases aO (eG (m.map eY) x) i with h|h
 ·have h1:=Ol hr h hz he;cases hq:iZ (eY e) x with
  | false=>rfl
  | true =>
   rw [<- p8] at h1;have h2:xL z ⟨x.1,x.2,[],0,aL⟩<0:=Ej z e ⟨x.1,x.2,[],0,aL⟩ ((p8 z e).1 h1) ((p8 e ⟨x.1,x.2,[],0,aL⟩).1 hq);rw [<- p8] at h2;rw [show iZ (eY z) x=aS from h2] at h0;cases h0
 ·have e1:i=eG (m.map eY) x:=by omega
  rw [e1,hz] at he;rw [<- aC he];exact h0
theorem Om (v:Sl) (l:List iB) (m:List En) (t s:eF) (w:aI) (hv:jX w (dK v) l) (hA:dX (iX w) l m) (hr:kC m) (hl:l.length<=1000) :
  aQ ah 48 #[dK v,lZ t,lZ s] w fun e w'=>e=V (.tuple #[L O (eG (m.map eY) (t,s)),aJ (qO m t s)])/\Below w.heap.size w w':=by
 obtain⟨so,n,sc⟩:=v;have hn:l.length=n:=rY hv;obtain⟨c,d⟩:=t;obtain⟨g,h⟩:=s;obtain⟨k,hk⟩:∃ k,eG (m.map eY) ((c,d),(g,h))=k:=⟨_,rfl⟩;obtain⟨th,hth⟩:∃ k,qO m (c,d) (g,h)=k:=⟨_,rfl⟩;have hkn:k<=n:=by rw [<- hk,<- hn,hA.len]; simpa using kV (m.map eY) ((c,d),(g,h))
 rw [hk,hth];obtain⟨h0,X,Y,Z⟩:=gL w #[aj so n sc] #[L O c,L O d] #[L O g,L O h] 30 38 38;have BB:=D h0;have HV:=D (hv.on h0);have HA:=D (hA.mono fun _ _ q=>q.on h0);have X1:=D X;have Y1:=D Y;have Z1:=D Z;have x0:=X.cell 0;simp only [aA,ak] at x0;have HF:=D (show ∀ i,i<n->∀ W,Below (((w.alloc (au #[aj so n sc] 30)).alloc (au #[L O c,L O d] 38)).alloc (au #[L O g,L O h] 38)).heap.size (((w.alloc (au #[aj so n sc] 30)).alloc (au #[L O c,L O d] 38)).alloc (au #[L O g,L O h] 38)) W ->
   aQ ah 81 (#[L O i]++#[ay (Q ⟨w.heap.size,0,aF⟩),ay (Q ⟨w.heap.size+1,0,aF⟩),ay (Q ⟨w.heap.size+1+1,0,aF⟩)]) W fun e w'=>e=V (aJ ((fun i=>match l[i]? with | some y=>!iZ (iF y) ((c,d),(g,h)) | none=>aS) i))/\Below W.heap.size W w' from fun i hi W hb=>by
  obtain⟨y,hy⟩:∃ y,l[i]?=Q y:=⟨_,J (by omega)⟩;refine Wt i _ _ _ so n sc l (c,d) (g,h) y _ W (HV.out.on hb) hn hy ?_ (X1.out.on hb) (Y1.out.on hb) (Z1.out.on hb);simp only [hy])
 have HLO:=D (show ∀ i,i<k->(fun i=>match l[i]? with | some y=>!iZ (iF y) ((c,d),(g,h)) | none=>aS) i=aL from fun i hi=>by
  obtain⟨y,hy⟩:∃ y,l[i]?=Q y:=⟨_,J (by omega)⟩;obtain⟨e,he,hke,_⟩:=kD HA.out hy;have h1:=p9 (m.map eY) ((c,d),(g,h)) i (eY e) (by rw [hk]; exact hi) (by rw [aZ,he]; rfl);simp only [hy,hke,h1]
  rfl)
 have HHI:=D (show ∀ i,k<=i->i<n->(fun i=>match l[i]? with | some y=>!iZ (iF y) ((c,d),(g,h)) | none=>aS) i=aS from fun i hi hi2=>by
  obtain⟨y,hy⟩:∃ y,l[i]?=Q y:=⟨_,J (by omega)⟩;obtain⟨e,he,hke,_⟩:=kD HA.out hy;have h1:=Sb.vg hr ((c,d),(g,h)) (by rw [hk]; exact hi) he;simp only [hy,hke,h1]
  rfl)
 have HK:=D hk;have HT:=D hth;have HN:=D hn;have ln:n<=1000:=by omega
 clear hv hA h0 X Y Z hk hth hl hn hr;go_enter Tryz.func48,Tryz.ntmps48;go_wp2_with fail;generalize ((w.alloc (au #[aj so n sc] 30)).alloc (au #[L O c,L O d] 38)).alloc (au #[L O g,L O h] 38)=W at *;refine (zK 81 #[ay (Q ⟨w.heap.size,0,aF⟩),ay (Q ⟨w.heap.size+1,0,aF⟩),ay (Q ⟨w.heap.size+1+1,0,aF⟩)] Wq n k _ W (by omega) HF.out hkn HLO.out HHI.out).mono ?_;rintro e1 w1 ⟨rfl,hb⟩;have BN:=D (fun dq osq=>(BB.out.trans (hb.mono BB.out.size)).trans ((aT w1 dq osq).mono (BB.out.trans (hb.mono BB.out.size)).size));have a0:=K (show w1.cell? ⟨w.heap.size,0,aF⟩=Q (aj so n sc) from (X1.out.on hb).cell 0);have b0:=K (show w1.cell? ⟨w.heap.size+1,0,aF⟩=Q (L O c) from (Y1.out.on hb).cell 0);have b1:=K (show w1.cell? ⟨w.heap.size+1,1,aF⟩=Q (L O d) from (Y1.out.on hb).cell 1);have c0:=K (show w1.cell? ⟨w.heap.size+1+1,0,aF⟩=Q (L O g) from (Z1.out.on hb).cell 0);have c1:=K (show w1.cell? ⟨w.heap.size+1+1,1,aF⟩=Q (L O h) from (Z1.out.on hb).cell 1);clear x0 HF HLO HHI;by_cases hkl:k<n
 ·obtain⟨y,hy⟩:∃ y,l[k]?=Q y:=⟨_,J (by rw [HN.out]; exact hkl)⟩;obtain⟨p,ix,p0,p1,p2,p3,p4,p5,p6⟩:=zL HV.out rfl HN.out hy hb;have TH:=D (show th=decide (iF y=((c,d),(g,h))) from by
   obtain⟨e,he,hke,_⟩:=kD HA.out hy;rw [<- HT.out,qO,HK.out,he,hke])
  have g4:decide ((k:Int)<(n:Int))=aS:=by simp; omega
  obtain⟨y1,y2,y3,y4,⟨yo,yn,yc⟩,y6,y7⟩:=y;simp only at p0 p1 p2 p3;clear p4 p5 p6 hb hy;obtain⟨r1,hr1⟩:∃ r,(y1 == c && y2 == d)=r:=⟨_,rfl⟩;obtain⟨r2,hr2⟩:∃ r,(y3 == g && y4 == h)=r:=⟨_,rfl⟩;have e1:=rG y1 y2 c d r1 hr1;have e2:=rG y3 y4 g h r2 hr2;have R:=D (show th=(r1 && r2) from by
   rw [TH.out,<- hr1,<- hr2,Bool.eq_iff_iff];simp only [decide_eq_true_eq,Bool.and_eq_true,beq_iff_eq,Prod.mk.injEq])
  clear hr1 hr2 TH HT;cases r1 <;> cases r2
  all_goals
   go_wp2;refine wp_region_quiet_below (by kernel_rfl) (by kernel_rfl) ?_
   repeat (go_big_quiet_step (fail))
   refine wpQuiet_nil ?_;intro _ hw';obtain⟨⟨dq,osq⟩,hw''⟩:=hw';subst hw'';go_wp2
   go_ret2
   exact⟨by rw [R.out]; rfl,BN.out _ _⟩
 ·have TH:=D (show th=aL from by
   rw [<- HT.out,qO,HK.out,List.getElem?_eq_none (by rw [<- HA.out.len,HN.out]; omega)])
  have g4:decide ((k:Int)<(n:Int))=aL:=by simp; omega
  clear hb HT;go_wp2;refine wp_region_quiet_below (by kernel_rfl) (by kernel_rfl) ?_
  repeat (go_big_quiet_step (fail))
  refine wpQuiet_nil ?_;intro _ hw';obtain⟨⟨dq,osq⟩,hw''⟩:=hw';subst hw'';go_wp2
  go_ret2
  exact⟨by rw [TH.out]; rfl,BN.out _ _⟩
def cutV (v:Sl) (f k:Nat):Sl:=match v with
 | (Q a,_,c)=>(Q (if c=f then a else a.add (f * 7)),k,c-f)
 | (aF,_,_)=>(aF,0,0)
theorem SK {α:Type} (p:α->Bool):∀ (l:List α) (j:Nat) (y:α),j<(l.takeWhile p).length->l[j]?=Q y->p y=aS
 | [],_,_,_,h=>by simp at h
 | a::l,j,y,hj,h=>by
  by_cases ha:p a=aS
  ·rw [aH,if_pos ha,bf] at hj;cases j with
   | zero=>rw [<- aC (show Q a=Q y from h)]; exact ha
   | succ j=>exact SK p l j y (by omega) (by simpa using h)
  ·rw [aH,if_neg ha] at hj;simp at hj
theorem SQ {α:Type} (p:α->Bool):∀ (l:List α) (y:α),l[(l.takeWhile p).length]?=Q y->p y=aL
 | [],_,h=>by simp at h
 | a::l,y,h=>by
  by_cases ha:p a=aS
  ·rw [aH,if_pos ha,bf] at h;exact SQ p l y (by simpa using h)
  ·rw [aH,if_neg ha] at h;rw [<- aC (show Q a=Q y from h)];simpa using ha
theorem Oo (a:bD) (f e len cap:Nat) (h:f<=e) (h6:e<=cap) (w:aI):(Instr.sliceAt 30 (aj (Q a) len cap) (Q (L O f)) (Q (L O e)) aF).run ah w=.ok (dK (cutV (Q a,len,cap) f (e-f))) w:=by
 have h1:(f:Int)<=(e:Int):=by omega
 have h3:(e:Int)<=cap:=by omega
 obtain⟨i,i1,i2,i3,i4⟩:=nR.info;have i1':Tryz.prog.info? 68=Q i:=i1;have hu':Tryz.prog.underlying 30=Q (.slice 68):=nR.hu;have i3':i.size=7:=i3;by_cases he:cap=f
 ·subst he;obtain rfl:e=cap:=by omega
  simp [go_sem,hu',sizeOf,typeInfo,i1',i3',cutV]
 ·simp [go_sem,hu',sizeOf,typeInfo,i1',i3',cutV,he,h,h6]
theorem Lr {W:aI} {v:Sl} {l:List iB} (h:jX W (dK v) l) (f k:Nat) (hk:f+k<=l.length) :
  (∀ w,(Instr.sliceAt 30 (dK v) (Q (L O f)) (Q (L O ((f+k:Nat):Int))) aF).run ah w=.ok (dK (cutV v f k)) w)/\jX W (dK (cutV v f k)) ((l.drop f).take k):=by
 obtain⟨so,sn,sc⟩:=v;rcases h with⟨rfl,hv⟩|⟨a,cap,hv,h2,h3,h4⟩
 ·obtain⟨rfl,rfl,rfl⟩:so=aF/\sn=0/\sc=0:=by simpa using hv
  obtain⟨rfl,rfl⟩:f=0/\k=0:=by simp at hk; omega
  refine⟨fun w=>?_,Or.inl ⟨rfl,rfl⟩⟩;obtain⟨i,i1,i2,i3,i4⟩:=nR.info;have i1':Tryz.prog.info? 68=Q i:=i1;have hu':Tryz.prog.underlying 30=Q (.slice 68):=nR.hu;simp [go_sem,hu',sizeOf,typeInfo,i1',cutV]
 ·obtain⟨rfl,rfl,rfl⟩:so=Q a/\sn=l.length/\sc=cap:=by simpa using hv
  refine⟨fun w=>by have h:=Oo a f (f+k) l.length sc (Nat.le_add_right _ _) (aU hk h2) w; rwa [Nat.add_sub_cancel_left] at h,?_⟩;refine Or.inr ⟨(if sc=f then a else a.add (f * 7)),sc-f,?_,?_,by omega,fun j u hj=>?_⟩
  ·have e:((l.drop f).take k).length=k:=by rw [aG,aM]; omega
   rw [e]
   rfl
  ·rw [aG,aM]; omega
  ·have hlt:=(U.1 hj).1;have hlen:(flat EN ((l.drop f).take k)).length=k * 7:=by
    rw [dU nR,aG,aM];show _ * 7=_;rw [show min k (l.length-f)=k by omega]
   rw [hlen] at hlt;rw [if_neg (by omega),add_add];refine h4 _ u ?_;have e1:flat EN l=flat EN (l.take f)++(flat EN ((l.drop f).take k)++flat EN ((l.drop f).drop k)):=by
    rw [<- gF,aV,<- gF,aV]
   have e2:(flat EN (l.take f)).length=f * 7:=by
    rw [dU nR,aG];show _ * 7=_;rw [show min f l.length=f by omega]
   rw [e1,List.getElem?_append_right (by rw [e2]; omega),e2,show f * 7+j-f * 7=j by omega,List.getElem?_append_left (by rw [hlen]; exact hlt)];exact hj
theorem wU (m:List En) (t:eF):jy m t+(rA m t).length<=m.length:=by
 have h1:(rA m t).length<=(m.drop (jy m t)).length:=(aB _).length_le;have h2:jy m t<=m.length:=(aB _).length_le;rw [aM] at h1;omega
theorem zM (v:Sl) (l:List iB) (m:List En) (t:eF) (w:aI) (hv:jX w (dK v) l) (hA:dX (iX w) l m) (hr:kC m) (hl:l.length<=1000) :
  aQ ah 46 #[dK v,lZ t] w fun e w'=>e=V (dK (cutV v (jy m t) (rA m t).length))/\Below w.heap.size w w':=by
 have hfk:=wU m t;have hML:l.length=m.length:=hA.len;obtain⟨f,hf⟩:∃ f,jy m t=f:=⟨_,rfl⟩;obtain⟨k,hk⟩:∃ k,(rA m t).length=k:=⟨_,rfl⟩;rw [hf,hk] at hfk ⊢;have RC:=D ((Lr hv f k (by omega)).1);obtain⟨so,n,sc⟩:=v;generalize cutV (so,n,sc) f k=z at RC ⊢;obtain⟨z1,z2,z3⟩:=z;have hn:l.length=n:=rY hv;obtain⟨c,d⟩:=t;obtain⟨h0,X,Y⟩:=gG w #[aj so n sc] #[L O c,L O d] 30 38;have BB:=D h0;have HV:=D (hv.on h0);have HA:=D (hA.mono fun _ _ q=>q.on h0);have X1:=D X;have Y1:=D Y;have x0:=X.cell 0;simp only [aA,ak] at x0;have FL:∀ (i:Nat) (e:En),i<f->m[i]?=Q e->dY e.tree (c,d)=aS:=fun i e hi he=>SK (fun e:En=>dY e.tree (c,d)) m i e (by unfold jy at hf; omega) he;have FH:∀ (i:Nat) (e:En),f<=i->m[i]?=Q e->dY e.tree (c,d)=aL:=fun i e hi he=>by
  refine JK (c,d) hr e ?_;rw [<- zB];unfold jy at hf;rw [hf];exact aD (show (m.drop f)[i-f]?=Q e by rw [aP,show f+(i-f)=i by omega]; exact he)
 have BL:=D (show ∀ (i:Nat) (e:En),i<k->m[f+i]?=Q e->e.tree=(c,d) from fun i e hi he=>by
  have:=SK (fun e:En=>decide (e.tree=(c,d))) (m.drop f) i e (by unfold rA at hk; rw [hf] at hk; omega) (by rw [aP]; exact he);exact of_decide_eq_true this)
 have BH:=D (show ∀ (e:En),m[f+k]?=Q e->e.tree≠(c,d) from fun e he=>by
  have:=SQ (fun e:En=>decide (e.tree=(c,d))) (m.drop f) e (by unfold rA at hk; rw [hf] at hk; rw [hk,aP]; exact he);exact of_decide_eq_false this)
 have HF:=D (show ∀ i,i<n->∀ W,Below ((w.alloc (au #[aj so n sc] 30)).alloc (au #[L O c,L O d] 38)).heap.size ((w.alloc (au #[aj so n sc] 30)).alloc (au #[L O c,L O d] 38)) W ->
   aQ ah 79 (#[L O i]++#[ay (Q ⟨w.heap.size,0,aF⟩),ay (Q ⟨w.heap.size+1,0,aF⟩)]) W fun e w'=>e=V (aJ ((fun i=>match l[i]? with | some y=>!dY (y.1,y.2.1) (c,d) | none=>aS) i))/\Below W.heap.size W w' from fun i hi W hb=>by
  obtain⟨y,hy⟩:∃ y,l[i]?=Q y:=⟨_,J (by omega)⟩;refine Wu i _ _ so n sc l (c,d) y _ W (HV.out.on hb) hn hy ?_ (X1.out.on hb) (Y1.out.on hb);simp only [hy])
 have HLO:=D (show ∀ i,i<f->(fun i=>match l[i]? with | some y=>!dY (y.1,y.2.1) (c,d) | none=>aS) i=aL from fun i hi=>by
  obtain⟨y,hy⟩:∃ y,l[i]?=Q y:=⟨_,J (by omega)⟩;obtain⟨e,he,hke,hx⟩:=kD HA.out hy;have h1:=FL i e hi he;rw [<- hx.1] at h1;simp only [hy,h1]
  rfl)
 have HHI:=D (show ∀ i,f<=i->i<n->(fun i=>match l[i]? with | some y=>!dY (y.1,y.2.1) (c,d) | none=>aS) i=aS from fun i hi hi2=>by
  obtain⟨y,hy⟩:∃ y,l[i]?=Q y:=⟨_,J (by omega)⟩;obtain⟨e,he,hke,hx⟩:=kD HA.out hy;have h1:=FH i e hi he;rw [<- hx.1] at h1;simp only [hy,h1]
  rfl)
 have HN:=D hn;have ln:n<=1000:=by omega
 have ahX:f+k<=n:=by omega
 clear hv hA h0 X Y hk hf hl hn hr hfk hML FL FH;go_enter Tryz.func46,Tryz.ntmps46;go_wp2_with fail;generalize (w.alloc (au #[aj so n sc] 30)).alloc (au #[L O c,L O d] 38)=W at *;refine (zK 79 #[ay (Q ⟨w.heap.size,0,aF⟩),ay (Q ⟨w.heap.size+1,0,aF⟩)] Ws n f _ W (by omega) HF.out (by omega) HLO.out HHI.out).mono ?_;rintro e1 w1 ⟨rfl,hb⟩;have B1:=D hb;clear x0 HF HLO HHI hb;go_wp2
 go_loopw [6] (fun i wr=>∃ j:Nat,j<=k/\i=L O ((f+j:Nat):Int)/\Below W.heap.size W wr) (fun i _=>f+k-(intOf i).toNat)
 case atStart=>exact⟨0,aW _,by simp,B1.out⟩
 case round =>
  obtain⟨j,hj,rfl,hbe⟩:=hrel;have BE:=D hbe;have a0:=K (show wr.cell? ⟨w.heap.size,0,aF⟩=Q (aj so n sc) from (X1.out.on hbe).cell 0);have b0:=K (show wr.cell? ⟨w.heap.size+1,0,aF⟩=Q (L O c) from (Y1.out.on hbe).cell 0);have b1:=K (show wr.cell? ⟨w.heap.size+1,1,aF⟩=Q (L O d) from (Y1.out.on hbe).cell 1);have BN:=D (fun dq osq=>BE.out.trans ((aT wr dq osq).mono BE.out.size));clear hbe;by_cases hjk:j<k
  ·obtain⟨y,hy⟩:∃ y,l[f+j]?=Q y:=⟨_,J (by rw [HN.out]; omega)⟩;obtain⟨p,ix,p0,p1,p2,p3,p4,p5,p6⟩:=zL HV.out rfl HN.out hy BE.out;obtain⟨e,he,_,hx⟩:=kD HA.out hy;have ht:(y.1,y.2.1)=(c,d):=hx.1.trans (BL.out j e hjk he);have hjn:f+j<n:=by omega
   have g4:decide (((f+j:Nat):Int)<(n:Int))=aS:=by simp; omega
   have hw3:IntKind.i64.wrap (((f+j:Nat):Int)+1)=((f+(j+1):Nat):Int):=by rw [IntWalk.i64_in _ (by omega)]; omega
   obtain⟨y1,y2,y3,y4,⟨yo,yn,yc⟩,y6,y7⟩:=y;obtain⟨rfl,rfl⟩:y1=c/\y2=d:=by simpa using ht
   simp only at p0 p1;have e1:=rG y1 y2 y1 y2 aS (by simp);clear p2 p3 p4 p5 p6 hy he hx ht;generalize hq:f+j=q at *;have HQ:=D hq;clear hq;go_wp2;refine wp_region_quiet_below (by kernel_rfl) (by kernel_rfl) ?_
   repeat (go_big_quiet_step (fail))
   refine wpQuiet_nil ?_;intro _ hw';obtain⟨⟨dq,osq⟩,hw''⟩:=hw';subst hw'';go_wp2
   go_roundw
   case rel=>exact⟨j+1,by omega,by rfl,BN.out _ _⟩
   case measure =>
    have hq:=HQ.out;simp [intOf];omega
  ·obtain rfl:j=k:=by omega
   have RC2:=RC.out;by_cases hjn:f+j<n
   ·obtain⟨y,hy⟩:∃ y,l[f+j]?=Q y:=⟨_,J (by rw [HN.out]; omega)⟩;obtain⟨p,ix,p0,p1,p2,p3,p4,p5,p6⟩:=zL HV.out rfl HN.out hy BE.out;obtain⟨e,he,_,hx⟩:=kD HA.out hy;have ht:(y.1,y.2.1)≠(c,d):=fun q=>BH.out e he (hx.1.symm.trans q);have g4:decide (((f+j:Nat):Int)<(n:Int))=aS:=by simp; omega
    obtain⟨y1,y2,y3,y4,⟨yo,yn,yc⟩,y6,y7⟩:=y;simp only at p0 p1;have e1:=rG y1 y2 c d aL (aR.2 fun h=>ht (by simp at h; rw [h.1,h.2]));clear p2 p3 p4 p5 p6 hy he hx ht;generalize f+j=q at *;go_wp2;refine wp_region_quiet_below (by kernel_rfl) (by kernel_rfl) ?_
    repeat (go_big_quiet_step (fail))
    refine wpQuiet_nil ?_;intro _ hw';obtain⟨⟨dq,osq⟩,hw''⟩:=hw';subst hw'';have a0:=a0 dq osq;go_wp2;go_ret;exact⟨rfl,BB.out.trans ((BN.out _ _).mono BB.out.size)⟩
   ·have g4:decide (((f+j:Nat):Int)<(n:Int))=aL:=by simp; omega
    generalize f+j=q at *;go_wp2;refine wp_region_quiet_below (by kernel_rfl) (by kernel_rfl) ?_
    repeat (go_big_quiet_step (fail))
    refine wpQuiet_nil ?_;intro _ hw';obtain⟨⟨dq,osq⟩,hw''⟩:=hw';subst hw'';have a0:=a0 dq osq;go_wp2;go_ret;exact⟨rfl,BB.out.trans ((BN.out _ _).mono BB.out.size)⟩
end Sb
namespace Sb
open Go.RowKit Go.Sort Rw YtkcfgbddlpomgaaGreat.Nm Pr Bk Av Rl
theorem SV (oO bv:aY) (p q:List C5) (w:aI) (ha:fG w oO p) (hb:fG w bv q) (hp:dM p) (hq:dM q) :
  aQ ah 107 #[oO,bv] w fun e w'=>e=V (aJ (mg p q))/\Below w.heap.size w w':=by
 obtain⟨a,na,rfl⟩:=hp;obtain⟨b,nb,rfl⟩:=hq;unfold mg;rw [oD,oD];exact JB oO bv a b w ha hb na nb
theorem aaF {α:Type} (f:α->Bool) {l:List α} (h:∀ (j:Nat) (y:α),j<l.length->l[j]?=Q y->f y=aL):l.any f=aL:=by
 rw [List.any_eq_false];intro e he;obtain⟨j,hj,hje⟩:=List.getElem_of_mem he;simpa using h j e hj (by rw [J hj,hje])
theorem aaG {α:Type} (f:α->Bool) {l:List α} {k:Nat} {y:α} (h:l[k]?=Q y) (hf:f y=aS):l.any f=aS:=by
 rw [List.any_eq_true];exact⟨y,aD h,hf⟩
abbrev cE (p:List C5) (e:En):Bool:=e.up && mg e.p p
theorem Ho (v:Sl) (pv:aY) (l:List iB) (m:List En) (p':List C5) (w:aI) (hs:jX w (dK v) l) (hu:dX (iX w) l m) (hp:fG w pv p') (hok:∀ e∈m,dM e.p) (hop:dM p') :
  aQ ah 83 #[dK v,pv] w fun e w'=>e=V (aJ (Sn m p'))/\Below w.heap.size w w':=by
 have HU:=D hu;have HP:=D hp;have OK:=D hok;have OP:=D hop;obtain⟨pa,pc,rfl⟩:=hp.len;generalize p'.length=pn at *;obtain⟨so,n,sc⟩:=v;have hn:=rY hs;have HS:=D hs;have lm:=hs.most;unfold maxLen at lm;rw [hn] at lm;have HN:=D hn;clear hu hp hok hop hs hn;go_enter Tryz.func83,Tryz.ntmps83;go_wp2
 go_loopw [9] (fun i wr=>∃ k:Nat,k<=n/\i=L O k/\Below w.heap.size w wr/\∀ (j:Nat) (y:En),j<k->m[j]?=Q y->cE p' y=aL) (fun i _=>n-(intOf i).toNat)
 case atStart=>exact⟨0,aW _,rfl,Below.refl _ _,fun j y h=>by omega⟩
 case round =>
  obtain⟨k,hk,rfl,hbe,hall⟩:=hrel;have BE:=D hbe;have AL:=D hall;clear hbe hall;by_cases hlt:k<n
  ·obtain⟨y,hy⟩:∃ y,l[k]?=Q y:=⟨_,J (by rw [HN.out]; exact hlt)⟩;obtain⟨q,ix,px⟩:=Pq HS.out rfl HN.out hy;obtain⟨p0,p1,p2,p3,p4,p5,p6⟩:=px wr BE.out;obtain⟨e,he,_,hin⟩:=kD HU.out hy;obtain⟨y1,y2,y3,y4,⟨yo,yn,yc⟩,y6,y7⟩:=y;simp only at p0 p1 p2 p3 p4 p5 p6;have NB:=D (fT wr (au #[L O y1,L O y2,L O y3,L O y4,aj yo yn yc,L O y6,aJ y7] 68));have hw3:IntKind.i64.wrap ((k:Int)+1)=(k:Int)+1:=IntWalk.i64_in _ (by omega);obtain⟨t,ht⟩:∃ r,mg e.p p'=r:=⟨_,rfl⟩;have HV:=D (show cE p' e=(y7 && t) by unfold cE; rw [<- hin.2.2.2.1,ht]);have HE:=D he;have BF:=D (BE.out.trans (NB.out.mono BE.out.size));have CV:=D (SV (aj yo yn yc) (aj pa pn pc) e.p p' _ (hin.2.2.2.2.on BF.out) (HP.out.on BF.out) (OK.out _ (aD he)) OP.out);rw [ht] at CV;clear px hy ht he hin;cases y7
   ·clear CV;go_wp2
    go_roundw
    case rel=>exact⟨k+1,by omega,by go_num,BF.out,fun j y' hj h1=>by
     rcases aO j k with h3|h3
     ·exact AL.out j y' h3 h1
     ·obtain rfl:j=k:=by omega
      have e1:=HE.out;rw [h1] at e1;rw [aC e1];exact HV.out.trans (by simp)⟩
    case measure=>simp [intOf]; omega
   ·go_wp2_with fail;refine CV.out.mono ?_;rintro e3 w3 ⟨rfl,hb⟩;have BG:=D (BF.out.trans (hb.mono BF.out.size));clear CV hb p0 p1 p2 p3 p4 p5 p6 ix;cases t
    ·go_wp2
     go_roundw
     case rel=>exact⟨k+1,by omega,by go_num,BG.out,fun j y' hj h1=>by
      rcases aO j k with h3|h3
      ·exact AL.out j y' h3 h1
      ·obtain rfl:j=k:=by omega
       have e1:=HE.out;rw [h1] at e1;rw [aC e1];exact HV.out.trans (by simp)⟩
     case measure=>simp [intOf]; omega
    ·have hd:Sn m p'=aS:=aaG (cE p') HE.out (HV.out.trans (by simp));go_wp2;go_ret;exact⟨by rw [hd]; rfl,BG.out⟩
  ·obtain rfl:k=n:=by omega
   have hd:Sn m p'=aL:=aaF (cE p') fun j y hj h=>AL.out j y (by rw [<- HN.out,HU.out.len]; exact hj) h;go_wp2;go_ret;exact⟨by rw [hd]; rfl,BE.out⟩
theorem SY {W:aI} {v:Sl} {l:List iB} {m:List En} (hv:jX W (dK v) l) (hA:dX (iX W) l m) (t:eF):jX W (dK (cutV v (jy m t) (rA m t).length)) ((l.drop (jy m t)).take (rA m t).length)/\dX (iX W) ((l.drop (jy m t)).take (rA m t).length) (rA m t):=by
 refine⟨(Lr hv _ _ (by rw [hA.len]; exact wU m t)).2,?_⟩;have h:=(hA.drop (jy m t)).take (rA m t).length;have e:(m.drop (jy m t)).take (rA m t).length=rA m t:=by
  unfold rA
  conv=>lhs; arg 2; rw [<- List.takeWhile_append_dropWhile (p:=fun e:En=>decide (e.tree=t)) (l:=m.drop (jy m t))]
  rw [List.take_left]
 rw [e] at h;exact h
theorem S9 (m:List En) (t:eF):∀ e∈rA m t,e∈m:=fun _ he=>List.mem_of_mem_drop ((aB _).subset he)
theorem Ta (me:Int) (nv av sv ov:aY) (ev:Sl) (l:List iB) (m:List En) (t:eF) (pv:aY) (p':List C5) (w:aI) (hs:jX w (dK ev) l) (hu:dX (iX w) l m) (hr:kC m) (hl:l.length<=1000) (hp:fG w pv p') (hok:∀ e∈m,dM e.p) (hop:dM p') :
  aQ ah 49 #[.agg #[L O me,nv,av,sv,dK ev,ov],lZ t,pv] w fun e w'=>e=V (aJ (eP m t p'))/\Below w.heap.size w w':=by
 obtain⟨pa,pc,rfl⟩:=hp.len;obtain⟨so,n,sc⟩:=ev;obtain⟨c,d⟩:=t;obtain⟨h0,X,Y⟩:=gG w #[L O me,nv,av,sv,aj so n sc,ov] #[L O c,L O d] 33 38;have B:=D h0;have x4:=X.cell 4;obtain⟨y0,y1⟩:=Y.cs2;simp only [aA,ak,aK] at x4;have BR:=D (zM (so,n,sc) l m (c,d) _ (hs.on h0) (hu.mono fun _ _ q=>q.on h0) hr hl);obtain⟨q1,q2⟩:=SY (hs.on h0) (hu.mono fun _ _ q=>q.on h0) (c,d);have Q1:=D q1;have Q2:=D q2;have HP:=D (hp.on h0);have OK:=D (fun e he=>hok e (S9 m (c,d) e he));have CB:=D (aaz hr (c,d) p');generalize p'.length=pn at *;generalize eP m (c,d) p'=r at *;generalize cutV (so,n,sc) (jy m (c,d)) (rA m (c,d)).length=z at *;obtain⟨z1,z2,z3⟩:=z;clear h0 X Y hs hu hr hl hp hok q1 q2;go_enter Tryz.func49,Tryz.ntmps49;go_wp2_with fail;generalize (w.alloc (au #[L O me,nv,av,sv,aj so n sc,ov] 33)).alloc (au #[L O c,L O d] 38)=W at *;refine BR.out.mono ?_;rintro e1 w1 ⟨rfl,hb⟩;have HB:=D hb;have CV:=D (Ho (z1,z2,z3) (aj pa pn pc) _ (rA m (c,d)) p' w1 (Q1.out.on hb) (Q2.out.mono fun _ _ q=>q.on hb) (HP.out.on hb) OK.out hop);clear x4 y0 y1 hb BR;go_wp2_with fail;refine CV.out.mono ?_;rintro e2 w2 ⟨rfl,hb2⟩;go_wp2;go_ret;exact⟨by rw [<- CB.out]; rfl,B.out.trans ((HB.out.trans (hb2.mono HB.out.size)).mono B.out.size)⟩
theorem Dl {w w':aI} {row:Option Nat} (h:w.grownBy w' row):Off row w w':=⟨h.block,h.size⟩
theorem aaH {wr w0:aI} {B:Nat} {v:aY} {lu:List iB} {mu:List En} (x:iB) (e:En) (o:jw wr B v lu) (hA:dX (Aq w0 B wr) lu mu) (hx:Aq w0 B wr x e) (hn:lu.length<=1000) (hB:B<=wr.heap.size) :
  ∃ v' w',(Builtin.append_ #[30,30] 30 #[v,aj (Q ⟨wr.heap.size,0,aF⟩) 1 1]).run ah (wr.alloc (au (iE x).toArray 68))=.ok v' w'/\jw w' B v' (lu++[x])/\dX (Aq w0 B w') (lu++[x]) (mu++[e]) /\
   (∀ B' W,B'<=B->Below B' W wr->Below B' W w')/\Off v.ownBlock (wr.alloc (au (iE x).toArray 68)) w':=by
 have NB:=fT wr (au (iE x).toArray 68);have hlit:=gH nR wr [x] 1 rfl (by simp) (iE x).toArray rfl;have o2:jw _ B v lu:=Bk.dh o NB;have hB2:B<=(wr.alloc (au (iE x).toArray 68)).heap.size:=aU hB NB.size;obtain⟨v',w',r',o',gr⟩:=fO nR B o2 (Row.dn hlit) hn (by simp) hB2 30;refine⟨v',w',by simpa [EN] using r',o',?_,fun B' W hB' hb=>?_,Dl gr⟩
 ·have hf:=Dl gr;have hg:=kG o2;have g:∀ y z,Aq w0 B wr y z->Aq w0 B w' y z:=fun y z q=>(q.grow NB).off hf hg (by decide);exact (hA.mono g).append (.cons (g _ _ hx) .nil)
 ·exact (hb.trans (NB.mono (by have:=hb.size; omega))).grown gr (aU hB' hB2) fun j hj=>aU hB' (o2.lt j hj).1
theorem aaI {w0 wr:aI} {B:Nat} {x:iB} {e:En} (h:Aq w0 B wr x e) (hl:Below w0.heap.size w0 wr):iX wr x e:=⟨h.1,h.2.1,h.2.2.1,h.2.2.2.1,h.2.2.2.2.row hl⟩
theorem Jo (me:Int) (nv av sv ov:aY) (ev:Sl) (l:List iB) (m:List En) (t:eF) (w:aI) (hs:jX w (dK ev) l) (hu:dX (iX w) l m) (hr:kC m) (hl:l.length<=900) (hf:∀ e∈m,e.p.length<=900) :
  aQ ah 20 #[.agg #[L O me,nv,av,sv,dK ev,ov],lZ t] w fun e w'=>(∃ (v':Sl) (lu:List iB),e=V (dK v')/\jX w' (dK v') lu/\dX (iX w') lu (rA m t))/\Below w.heap.size w w':=by
 obtain⟨so,n,sc⟩:=ev;obtain⟨c,d⟩:=t;obtain⟨h0,X,Y⟩:=gG w #[L O me,nv,av,sv,aj so n sc,ov] #[L O c,L O d] 33 38;have B:=D h0;have x4:=X.cell 4;obtain⟨y0,y1⟩:=Y.cs2;simp only [aA,ak,aK] at x4;have BR:=D (zM (so,n,sc) l m (c,d) _ (hs.on h0) (hu.mono fun _ _ q=>q.on h0) hr (by omega));obtain⟨q1,q2⟩:=SY (hs.on h0) (hu.mono fun _ _ q=>q.on h0) (c,d);have hbl:(rA m (c,d)).length<=900:=by have:=wU m (c,d); have:=hu.len; omega
 have HF:=D (fun e he=>hf e (S9 m (c,d) e he));generalize (l.drop (jy m (c,d))).take (rA m (c,d)).length=lb at *;generalize cutV (so,n,sc) (jy m (c,d)) (rA m (c,d)).length=z at *;obtain⟨z1,z2,z3⟩:=z;generalize rA m (c,d)=mb at *;have hn:lb.length=z2:=rY q1;have HN:=D hn;have hz:z2<=900:=by have:=q2.len; omega
 have Q1:=D q1;have Q2:=D q2;clear h0 X Y hs hu hr hl hf q1 q2 hn hbl;go_enter Tryz.func20,Tryz.ntmps20;go_wp2_with fail;generalize (w.alloc (au #[L O me,nv,av,sv,aj so n sc,ov] 33)).alloc (au #[L O c,L O d] 38)=W at *;refine BR.out.mono ?_;rintro e1 w1 ⟨rfl,hb⟩;have HB:=D hb;have R1:=D (Q1.out.on hb);have R2:=D (Q2.out.mono fun _ _ q=>q.on hb);clear x4 y0 y1 BR hb Q1 Q2;go_wp2
 go_loopw [5,13] (fun v i wr=>∃ (k:Nat) (lu:List iB),k<=z2/\i=L O k/\Below w1.heap.size w1 wr/\jw wr w1.heap.size v lu/\dX (Aq w1 w1.heap.size wr) lu (mb.take k)) (fun _ i _=>z2-(intOf i).toNat)
 case atStart=>exact⟨0,[],aW _,rfl,Below.refl _ _,fF _ _,by simpa using dX.nil⟩
 case round =>
  obtain⟨k,lu,hk,rfl,hbe,hown,hall⟩:=hrel;have BE:=D hbe;have OE:=D hown;have AE:=D hall;clear hbe hown hall;by_cases hlt:k<z2
  ·obtain⟨y,hy⟩:∃ y,lb[k]?=Q y:=⟨_,J (by rw [HN.out]; exact hlt)⟩;obtain⟨q,ix,px⟩:=Pq R1.out rfl HN.out hy;obtain⟨p0,p1,p2,p3,p4,p5,p6⟩:=px wr BE.out;obtain⟨e,he,_,hin⟩:=kD R2.out hy;obtain⟨y1,y2,y3,y4,⟨yo,yn,yc⟩,y6,y7⟩:=y;simp only at p0 p1 p2 p3 p4 p5 p6;have NB:=D (fT wr (au #[L O y1,L O y2,L O y3,L O y4,aj yo yn yc,L O y6,aJ y7] 68));have BF:=D (BE.out.trans (NB.out.mono BE.out.size));have hx:=dI wr #[L O y1,L O y2,L O y3,L O y4,aj yo yn yc,L O y6,aJ y7] 68;obtain⟨v0,v1,v2,v3,v4,v5,v6⟩:=hx.mP;have hw3:IntKind.i64.wrap ((k:Int)+1)=(k:Int)+1:=IntWalk.i64_in _ (by omega);have CP:=D (D5 (y1,y2,y3,y4,(yo,yn,yc),y6,y7) e.p _ (hin.2.2.2.2.on BF.out) (HF.out e (aD he)));have HI:=D hin;have HE:=D he;clear px hy he hin hx;go_wp2_with fail;refine CP.out.mono ?_;rintro e3 w3 ⟨⟨⟨u1,u2,u3⟩,rfl,ho⟩,hb⟩;have BG:=BF.out.trans (hb.mono BF.out.size);have hl:lu.length=k:=by rw [AE.out.len,aG]; have:=HN.out; have:=R2.out.len; omega
   obtain⟨v',w',r',o',a',bl,_⟩:=aaH (w0:=w1) (y1,y2,y3,y4,(u1,u2,u3),y6,y7) e (Bk.dh (Bk.dh OE.out NB.out) hb) (AE.out.mono fun _ _ q=>(q.grow NB.out).grow hb) ⟨HI.out.1,HI.out.2.1,HI.out.2.2.1,HI.out.2.2.2.1,Or.inr (dx ho BF.out.size)⟩ (by omega) (by have:=BG.size; omega);have O2:=D o';have A2:=D a';have B2:=D (bl _ w1 (aX _) BG);have E2:=D (show mb.take (k+1)=mb.take k++[e] from List.take_succ_eq_append_getElem (U.1 HE.out).1 ▸ by rw [(U.1 HE.out).2]);clear CP hb ho BG hl o' a' bl v0 v1 v2 v3 v4 v5 v6 p0 p1 p2 p3 p4 p5 p6 ix NB BF;go_wp2_with (first | (at_builtin; refine wpList_append_run rfl _ _ 30 rfl rfl rfl r' ?_) | fail)
   go_roundw
   case rel=>exact⟨k+1,_,by omega,by go_num,B2.out,O2.out,by rw [E2.out]; exact A2.out⟩
   case measure=>simp [intOf]; omega
  ·obtain rfl:z2=k:=by omega
   have e:mb.take z2=mb:=List.take_of_length_le (by have:=HN.out; have:=R2.out.len; omega);rw [e] at AE;obtain⟨Ao,Ap,hv⟩:=(Row.dn OE.out).len;subst hv;clear e;go_wp2;go_ret;exact⟨⟨(Ao,_,Ap),lu,rfl,Row.dn OE.out,AE.out.mono fun _ _ q=>aaI q BE.out⟩,B.out.trans ((HB.out.trans (BE.out.mono HB.out.size)).mono B.out.size)⟩
theorem lX {p:List C5} (h:dM p):p.length<=900:=by
 obtain⟨a,na,rfl⟩:=h;rw [List.length_map];have:=na.five;omega
theorem Ls {α:Type} {E:Ek α} {W:aI} {B:Nat} {v:aY} {l:List α} (h:Own E W B v l):∀ b,v.ownBlock=Q b->B<=b:=by
 intro b hb;rcases iP h with⟨rfl,_⟩|⟨g',cap',cur,rfl,h2,_⟩
 ·cases hb
 ·obtain rfl:g'=b:=by simpa [Value.ownBlock] using hb
  exact h2
end Sb
end Go.Proofs.YtkcfgbddlpomgaaGreat
