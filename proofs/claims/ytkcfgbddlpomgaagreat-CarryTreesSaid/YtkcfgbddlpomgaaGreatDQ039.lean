/-
  ahead, place and bra. Conditions as told.
-/
import Derived.Test.YtkcfgbddlpomgaaGreatDQ035
import Derived.Shelf.Abstract
set_option maxRecDepth 100000
set_option maxHeartbeats 64000000
open _root_.Bool renaming eq_false_iff->aL,false->aM,true->aP
open _root_.Go renaming cell_regrown->K,redrawn->aH,below_regrown->aN,World->aO,Calls->aR,Value->aY,Addr->aZ
open Go.Ending renaming returned->U
open Go.IntKind renaming i64->Q
open Go.Lib renaming hid->J
open Go.Obj renaming cells->aC
open Go.Proofs.Tryz renaming prog->V,ntmps82->aU,func82->aV,func81->aW,func79->aX
open Go.Value renaming int->O,pointer->aj,slice->ak,bool->aK
open _root_.List renaming getElem?_eq_getElem->D,getElem?_eq_some_iff->ah,takeWhile_cons->ay,getElem?_cons_zero->aA,takeWhile_sublist->aB,getElem?_toArray->aD,length_take->aF,length_drop->aG,getElem?_drop->aJ,take_append_drop->aQ,getElem?_map->aS,length_cons->aT
open _root_.Option renaming some->L,none->au
open Option.some renaming inj->aI
namespace Go.Proofs.YtkcfgbddlpomgaaGreat.Sb
open Go.RowKit Go.Sort Rw YtkcfgbddlpomgaaGreat.Nm Pr Bk Av
theorem Po (x:iA) (t s:eO) (r:Bool) (hr:je (iI x) (t,s)=r) (w:aO):aR V 82 #[qR x,mD t,mD s] w fun e w'=>e=U (aK r)/\Below w.heap.size w w':=by
 obtain⟨y1,y2,y3,y4,⟨yo,yn,yc⟩,y6,y7⟩:=x;obtain⟨c,d⟩:=t;obtain⟨g,h⟩:=s;obtain⟨h0,X,Y,Z⟩:=gN w #[O Q y1,O Q y2,O Q y3,O Q y4,ak yo yn yc,O Q y6,aK y7] #[O Q c,O Q d] #[O Q g,O Q h] 68 38 38;have x1:=X.cell 1;have x0:=X.cell 0;have x2:=X.cell 2;have x3:=X.cell 3;obtain⟨c0,c1⟩:=Y.cs2;obtain⟨d0,d1⟩:=Z.cs2;simp only [aD,aA,List.getElem?_cons_succ] at x0 x1 x2 x3;have C1:=wF (y1,y2) (c,d);have C2:=wF (y3,y4) (g,h);have B:=J h0;have he:je ((y1,y2),(y3,y4)) ((c,d),(g,h))=if ((y1,y2):eO)=(c,d) then eu (y3,y4) (g,h) else eu (y1,y2) (c,d):=by
  unfold je;by_cases q:((y1,y2):eO)=(c,d)
  ·rw [if_pos q,q,j6,(xY _ _).2 rfl]; rfl
  ·rw [if_neg q,aL.2 fun q2=>q ((xY _ _).1 q2)]; simp
 clear h0 X Y Z;by_cases q:((y1,y2):eO)=(c,d)
 ·have hr2:=J (show eu (y3,y4) (g,h)=r by rw [<- hr]; show _=je ((y1,y2),(y3,y4)) ((c,d),(g,h)); rw [he,if_pos q]);obtain⟨rfl,rfl⟩:y1=c/\y2=d:=by simpa using q
  have hne:=Ws y1 y2 y1 y2 aM (by simp);clear he hr q;go_enter aV,aU;go_wp2_with fail;refine (C2 _).mono ?_;rintro e w1 ⟨rfl,hb⟩;go_wp2;go_ret;exact⟨congrArg (fun b=>U (aK b)) hr2.out,B.out.trans (hb.mono B.out.size)⟩
 ·have hr2:=J (show eu (y1,y2) (c,d)=r by rw [<- hr]; show _=je ((y1,y2),(y3,y4)) ((c,d),(g,h)); rw [he,if_neg q]);have hne:=Ws y1 y2 c d aP (by rw [show (y1 == c && y2 == d)=aM from aL.2 fun h=>q (by simp at h; rw [h.1,h.2])]; rfl);clear he hr q;go_enter aV,aU;go_wp2_with fail;refine (C1 _).mono ?_;rintro e w1 ⟨rfl,hb⟩;go_wp2;go_ret;exact⟨congrArg (fun b=>U (aK b)) hr2.out,B.out.trans (hb.mono B.out.size)⟩
theorem Ae (g:Nat) (cb:Array aY) (eg:∀ args w,(callFunc g args).run V w=.ok (.enter g args) w) (n k:Nat) (p:Nat->Bool) (w:aO) (hn:n<=1000000)
  (hf:∀ i,i<n->∀ W,Below w.heap.size w W->aR V g (#[O Q i]++cb) W fun e w'=>e=U (aK (p i))/\Below W.heap.size W w')
  (hk:k<=n) (hlo:∀ i,i<k->p i=aM) (hhi:∀ i,k<=i->i<n->p i=aP) :
  aR V 78 #[O Q n,.func (.func g) #[] cb] w fun e w'=>e=U (O Q k)/\Below w.heap.size w w':=by
 have HF:=J hf;have LO:=J hlo;have HI:=J hhi;clear hf hlo hhi;go_enter Tryz.func78,Tryz.ntmps78;go_wp2
 go_loopg [5,6] n (fun kx s5 s6 wr=>∃ lo hi:Nat,s5=O Q lo/\s6=O Q hi/\lo<=k/\k<=hi/\hi<=n/\hi-lo<=kx/\Below w.heap.size w wr)
 case atStart=>exact⟨0,n,rfl,rfl,Nat.zero_le _,hk,Nat.le_refl _,by omega,Below.refl _ _⟩
 case round =>
  obtain⟨lo,hi,rfl,rfl,hlk,hkh,hin,hg,hb⟩:=hrel;have B:=J hb;clear hb;by_cases hlt:lo<hi
  ·have hc:=HF.out ((lo+hi) / 2) (by omega) wr B.out;rw [show (((lo+hi) / 2:Nat):Int)=((lo:Int)+(hi:Int)) / 2 by omega] at hc;cases hp:p ((lo+hi) / 2) <;> rw [hp] at hc
   ·have HP:=J hp;have HK:=J (show (lo+hi) / 2+1<=k from by
     rcases Nat.lt_or_ge ((lo+hi) / 2) k with h|h
     ·exact h
     ·have:=HI.out _ h (by omega); rw [hp] at this; cases this)
    clear hp;go_wp2_with (go_at_fn g; refine hc.mono ?_; rintro e w' ⟨rfl,hb2⟩)
    go_roundg (hi-((lo+hi) / 2+1))
    case measure=>omega
    case rel=>exact⟨(lo+hi) / 2+1,hi,by rw [show ((lo:Int)+(hi:Int)) / 2+1=(((lo+hi) / 2+1:Nat):Int) by omega],rfl,HK.out,hkh,hin,Nat.le_refl _,B.out.trans (hb2.mono B.out.size)⟩
   ·have HP:=J hp;have HK:=J (show k<=(lo+hi) / 2 from by
     rcases Nat.lt_or_ge ((lo+hi) / 2) k with h|h
     ·have:=LO.out _ h; rw [hp] at this; cases this
     ·exact h)
    clear hp;go_wp2_with (go_at_fn g; refine hc.mono ?_; rintro e w' ⟨rfl,hb2⟩)
    go_roundg ((lo+hi) / 2-lo)
    case measure=>omega
    case rel=>exact⟨lo,(lo+hi) / 2,rfl,by rw [show ((lo:Int)+(hi:Int)) / 2=(((lo+hi) / 2:Nat):Int) by omega],hlk,HK.out,by omega,Nat.le_refl _,B.out.trans (hb2.mono B.out.size)⟩
  ·obtain rfl:hi=lo:=by omega
   obtain rfl:hi=k:=by omega
   go_wp2;go_ret;exact⟨rfl,B.out⟩
theorem Af {W W1:aO} {v:aY} {l:List iA} {ao:Option aZ} {n c k:Nat} {x:iA} (h:jZ W v l) (hv:v=ak ao n c) (hn:l.length=n) (hk:l[k]?=L x) (hb:Below W.heap.size W W1) :
  ∃ p:aZ,(∀ w,(Instr.indexAt 30 (ak ao n c) (O Q k)).run V w=.ok (aj (L p)) w) /\
   (∀ d os,(grow (aH W1 d) os).cell? p=L (O Q x.1))/\(∀ d os,(grow (aH W1 d) os).cell? ⟨p.block,p.off+1,au⟩=L (O Q x.2.1)) /\
   (∀ d os,(grow (aH W1 d) os).cell? ⟨p.block,p.off+2,au⟩=L (O Q x.2.2.1))/\(∀ d os,(grow (aH W1 d) os).cell? ⟨p.block,p.off+3,au⟩=L (O Q x.2.2.2.1)) /\
   (∀ d os,(grow (aH W1 d) os).cell? ⟨p.block,p.off+4,au⟩=L (dR x.2.2.2.2.1))/\(∀ d os,(grow (aH W1 d) os).cell? ⟨p.block,p.off+5,au⟩=L (O Q x.2.2.2.2.2.1)) /\
   (∀ d os,(grow (aH W1 d) os).cell? ⟨p.block,p.off+6,au⟩=L (aK x.2.2.2.2.2.2)):=by
 obtain⟨p,h1,h2⟩:=P7 h hv hn hk;obtain⟨c0,c1,c2,c3,c4,c5,c6⟩:=h2 _ hb;exact⟨p,h1,K c0,K c1,K c2,K c3,K c4,K c5,K c6⟩
theorem Xw (args:Array aY) (w:aO):(callFunc 81 args).run V w=.ok (.enter 81 args) w:=gu aW rfl rfl args w
theorem Xx (args:Array aY) (w:aO):(callFunc 79 args).run V w=.ok (.enter 79 args) w:=gu aX rfl rfl args w
theorem Xy (i:Nat) (b1 b2 b3:Nat) (ao:Option aZ) (n ac:Nat) (l:List iA) (t s:eO) (y:iA) (r:Bool) (w:aO) (hv:jZ w (ak ao n ac) l) (hn:l.length=n) (hy:l[i]?=L y) (hr:(!je (iI y) (t,s))=r)
  (h1:dJ w b1 #[ak ao n ac] 30) (h2:dJ w b2 #[O Q t.1,O Q t.2] 38) (h3:dJ w b3 #[O Q s.1,O Q s.2] 38) :
  aR V 81 #[O Q i,aj (L ⟨b1,0,au⟩),aj (L ⟨b2,0,au⟩),aj (L ⟨b3,0,au⟩)] w fun e w'=>e=U (aK r)/\Below w.heap.size w w':=by
 obtain⟨p,ix,p0,p1,p2,p3,p4,p5,p6⟩:=Af hv rfl hn hy (Below.refl _ _);have a0:=K (h1.cell 0);have b0:=K (h2.cell 0);have b1':=K (h2.cell 1);have c0:=K (h3.cell 0);have c1:=K (h3.cell 1);obtain⟨q,hq⟩:∃ q,je (iI y) (t,s)=q:=⟨_,rfl⟩;have C:∀ k os,aR V 82 #[qR y,mD t,mD s] (grow (aH w k) os) fun e w''=>e=U (aK q)/\∃ p:Regrown,w''=grow (aH w p.d) p.os:=fun k os=>Calls.regrown_of (Po y t s q hq _);rw [hq] at hr;have R:=J hr;have BN:=J (fun dq osq=>aN w dq osq);obtain⟨y1,y2,y3,y4,⟨yo,yn,yc⟩,y6,y7⟩:=y;obtain⟨c,d⟩:=t;obtain⟨g,h⟩:=s;simp only at p0 p1 p2 p3 p4 p5 p6 b0 b1' c0 c1 C;clear hv hn hy hr hq h1 h2 h3;go_enter aW,Tryz.ntmps81;go_wp2;refine wp_region_quiet_below (by kernel_rfl) (by kernel_rfl) ?_
 repeat (go_big_quiet_step (first | (with_reducible exact C _ _) | exact abJ _ _))
 refine wpQuiet_nil ?_;intro _ hw';obtain⟨⟨dq,osq⟩,hw''⟩:=hw';subst hw'';go_wp2;go_ret;exact⟨congrArg (fun b=>U (aK b)) R.out,BN.out _ _⟩
theorem Xz (i:Nat) (b1 b2:Nat) (ao:Option aZ) (n ac:Nat) (l:List iA) (t:eO) (y:iA) (r:Bool) (w:aO) (hv:jZ w (ak ao n ac) l) (hn:l.length=n) (hy:l[i]?=L y) (hr:(!eu (y.1,y.2.1) t)=r)
  (h1:dJ w b1 #[ak ao n ac] 30) (h2:dJ w b2 #[O Q t.1,O Q t.2] 38) :
  aR V 79 #[O Q i,aj (L ⟨b1,0,au⟩),aj (L ⟨b2,0,au⟩)] w fun e w'=>e=U (aK r)/\Below w.heap.size w w':=by
 obtain⟨p,ix,p0,p1,p2,p3,p4,p5,p6⟩:=Af hv rfl hn hy (Below.refl _ _);have a0:=K (h1.cell 0);have b0:=K (h2.cell 0);have b1':=K (h2.cell 1);have C:∀ k os,aR V 80 #[mD (y.1,y.2.1),mD t] (grow (aH w k) os) fun e w''=>e=U (aK (eu (y.1,y.2.1) t))/\∃ p:Regrown,w''=grow (aH w p.d) p.os:=fun k os=>Calls.regrown_of (wF (y.1,y.2.1) t _);generalize eu (y.1,y.2.1) t=q at *;have R:=J hr;have BN:=J (fun dq osq=>aN w dq osq);obtain⟨y1,y2,y3,y4,⟨yo,yn,yc⟩,y6,y7⟩:=y;obtain⟨c,d⟩:=t;simp only at p0 p1 p2 p3 p4 p5 p6 b0 b1' C;clear hv hn hy hr h1 h2 p2 p3 p4 p5 p6;go_enter aX,Tryz.ntmps79;go_wp2;refine wp_region_quiet_below (by kernel_rfl) (by kernel_rfl) ?_
 repeat (go_big_quiet_step (first | (with_reducible exact C _ _) | exact acu _ _))
 refine wpQuiet_nil ?_;intro _ hw';obtain⟨⟨dq,osq⟩,hw''⟩:=hw';subst hw'';go_wp2;go_ret;exact⟨congrArg (fun b=>U (aK b)) R.out,BN.out _ _⟩
theorem rY {α:Type} {E:Ek α} {W:aO} {so:Option aZ} {sn sc:Nat} {l:List α} (h:Row E W (ak so sn sc) l):l.length=sn:=by
 obtain⟨ao,ac,hv⟩:=h.len;simp at hv;exact hv.2.1.symm
theorem kI {W:aO} {l:List iA} {m:List En} (h:eB (iW W) l m) {i:Nat} {y:iA} (hy:l[i]?=L y):∃ e,m[i]?=L e/\iI y=fB e/\iW W y e:=by
 have hlt:=(ah.1 hy).1;obtain⟨e,he⟩:∃ e,m[i]?=L e:=⟨_,D (by rw [<- h.len]; exact hlt)⟩;obtain⟨y',hy',hx⟩:=h.at i e he;rw [hy] at hy';obtain rfl:=aI hy';exact⟨e,he,Prod.ext hx.1 hx.2.1,hx⟩
theorem Pp {m:List En} (hr:kG m) {i j:Nat} {x y:En} (hij:i<j) (hx:m[i]?=L x) (hy:m[j]?=L y):xS x y<0:=by
 obtain⟨h1,rfl⟩:=ah.1 hx;obtain⟨h2,rfl⟩:=ah.1 hy;exact List.pairwise_iff_getElem.1 hr i j h1 h2 hij
theorem kZ (l:List (eO×eO)) (x:eO×eO):eP l x<=l.length:=(aB _).length_le
theorem vg {m:List En} (hr:kG m) (x:eO×eO) {i:Nat} {e:En} (hi:eP (m.map fB) x<=i) (he:m[i]?=L e):je (fB e) x=aM:=by
 have hlt:=(ah.1 he).1;obtain⟨z,hz⟩:∃ z,m[eP (m.map fB) x]?=L z:=⟨_,D (by omega)⟩;have h0:=wU (m.map fB) x (fB z) (by rw [aS,hz]; rfl);rcases Nat.lt_or_ge (eP (m.map fB) x) i with h|h
 ·have h1:=Pp hr h hz he;cases hq:je (fB e) x with
  | false=>rfl
  | true =>
   rw [<- pX] at h1;have h2:xS z ⟨x.1,x.2,[],0,aM⟩<0:=E5 z e ⟨x.1,x.2,[],0,aM⟩ ((pX z e).1 h1) ((pX e ⟨x.1,x.2,[],0,aM⟩).1 hq);rw [<- pX] at h2;rw [show je (fB z) x=aP from h2] at h0;cases h0
 ·have e1:i=eP (m.map fB) x:=by omega
  rw [e1,hz] at he;rw [<- aI he];exact h0
theorem Pq (v:Sl) (l:List iA) (m:List En) (t s:eO) (w:aO) (hv:jZ w (dR v) l) (hA:eB (iW w) l m) (hr:kG m) (hl:l.length<=1000) :
  aR V 48 #[dR v,mD t,mD s] w fun e w'=>e=U (.tuple #[O Q (eP (m.map fB) (t,s)),aK (qL m t s)])/\Below w.heap.size w w':=by
 obtain⟨so,n,sc⟩:=v;have hn:l.length=n:=rY hv;obtain⟨c,d⟩:=t;obtain⟨g,h⟩:=s;obtain⟨k,hk⟩:∃ k,eP (m.map fB) ((c,d),(g,h))=k:=⟨_,rfl⟩;obtain⟨th,hth⟩:∃ k,qL m (c,d) (g,h)=k:=⟨_,rfl⟩;have hkn:k<=n:=by rw [<- hk,<- hn,hA.len]; simpa using kZ (m.map fB) ((c,d),(g,h))
 rw [hk,hth];obtain⟨h0,X,Y,Z⟩:=gN w #[ak so n sc] #[O Q c,O Q d] #[O Q g,O Q h] 30 38 38;have BB:=J h0;have HV:=J (hv.on h0);have HA:=J (hA.mono fun _ _ q=>q.on h0);have X1:=J X;have Y1:=J Y;have Z1:=J Z;have x0:=X.cell 0;simp only [aD,aA] at x0;have HF:=J (show ∀ i,i<n->∀ W,Below (((w.alloc (aC #[ak so n sc] 30)).alloc (aC #[O Q c,O Q d] 38)).alloc (aC #[O Q g,O Q h] 38)).heap.size (((w.alloc (aC #[ak so n sc] 30)).alloc (aC #[O Q c,O Q d] 38)).alloc (aC #[O Q g,O Q h] 38)) W ->
   aR V 81 (#[O Q i]++#[aj (L ⟨w.heap.size,0,au⟩),aj (L ⟨w.heap.size+1,0,au⟩),aj (L ⟨w.heap.size+1+1,0,au⟩)]) W fun e w'=>e=U (aK ((fun i=>match l[i]? with | some y=>!je (iI y) ((c,d),(g,h)) | none=>aP) i))/\Below W.heap.size W w' from fun i hi W hb=>by
  obtain⟨y,hy⟩:∃ y,l[i]?=L y:=⟨_,D (by omega)⟩;refine Xy i _ _ _ so n sc l (c,d) (g,h) y _ W (HV.out.on hb) hn hy ?_ (X1.out.on hb) (Y1.out.on hb) (Z1.out.on hb);simp only [hy])
 have HLO:=J (show ∀ i,i<k->(fun i=>match l[i]? with | some y=>!je (iI y) ((c,d),(g,h)) | none=>aP) i=aM from fun i hi=>by
  obtain⟨y,hy⟩:∃ y,l[i]?=L y:=⟨_,D (by omega)⟩;obtain⟨e,he,hke,_⟩:=kI HA.out hy;have h1:=pY (m.map fB) ((c,d),(g,h)) i (fB e) (by rw [hk]; exact hi) (by rw [aS,he]; rfl);simp only [hy,hke,h1]
  rfl)
 have HHI:=J (show ∀ i,k<=i->i<n->(fun i=>match l[i]? with | some y=>!je (iI y) ((c,d),(g,h)) | none=>aP) i=aP from fun i hi hi2=>by
  obtain⟨y,hy⟩:∃ y,l[i]?=L y:=⟨_,D (by omega)⟩;obtain⟨e,he,hke,_⟩:=kI HA.out hy;have h1:=Sb.vg hr ((c,d),(g,h)) (by rw [hk]; exact hi) he;simp only [hy,hke,h1]
  rfl)
 have HK:=J hk;have HT:=J hth;have HN:=J hn;have ln:n<=1000:=by omega
 clear hv hA h0 X Y Z hk hth hl hn hr;go_enter Tryz.func48,Tryz.ntmps48;go_wp2_with fail;generalize ((w.alloc (aC #[ak so n sc] 30)).alloc (aC #[O Q c,O Q d] 38)).alloc (aC #[O Q g,O Q h] 38)=W at *;refine (Ae 81 #[aj (L ⟨w.heap.size,0,au⟩),aj (L ⟨w.heap.size+1,0,au⟩),aj (L ⟨w.heap.size+1+1,0,au⟩)] Xw n k _ W (by omega) HF.out hkn HLO.out HHI.out).mono ?_;rintro e1 w1 ⟨rfl,hb⟩;have BN:=J (fun dq osq=>(BB.out.trans (hb.mono BB.out.size)).trans ((aN w1 dq osq).mono (BB.out.trans (hb.mono BB.out.size)).size));have a0:=K (show w1.cell? ⟨w.heap.size,0,au⟩=L (ak so n sc) from (X1.out.on hb).cell 0);have b0:=K (show w1.cell? ⟨w.heap.size+1,0,au⟩=L (O Q c) from (Y1.out.on hb).cell 0);have b1:=K (show w1.cell? ⟨w.heap.size+1,1,au⟩=L (O Q d) from (Y1.out.on hb).cell 1);have c0:=K (show w1.cell? ⟨w.heap.size+1+1,0,au⟩=L (O Q g) from (Z1.out.on hb).cell 0);have c1:=K (show w1.cell? ⟨w.heap.size+1+1,1,au⟩=L (O Q h) from (Z1.out.on hb).cell 1);clear x0 HF HLO HHI;by_cases hkl:k<n
 ·obtain⟨y,hy⟩:∃ y,l[k]?=L y:=⟨_,D (by rw [HN.out]; exact hkl)⟩;obtain⟨p,ix,p0,p1,p2,p3,p4,p5,p6⟩:=Af HV.out rfl HN.out hy hb;have TH:=J (show th=decide (iI y=((c,d),(g,h))) from by
   obtain⟨e,he,hke,_⟩:=kI HA.out hy;rw [<- HT.out,qL,HK.out,he,hke])
  have g4:decide ((k:Int)<(n:Int))=aP:=by simp; omega
  obtain⟨y1,y2,y3,y4,⟨yo,yn,yc⟩,y6,y7⟩:=y;simp only at p0 p1 p2 p3;clear p4 p5 p6 hb hy;obtain⟨r1,hr1⟩:∃ r,(y1 == c && y2 == d)=r:=⟨_,rfl⟩;obtain⟨r2,hr2⟩:∃ r,(y3 == g && y4 == h)=r:=⟨_,rfl⟩;have e1:=rz y1 y2 c d r1 hr1;have e2:=rz y3 y4 g h r2 hr2;have R:=J (show th=(r1 && r2) from by
   rw [TH.out,<- hr1,<- hr2,Bool.eq_iff_iff];simp only [decide_eq_true_eq,Bool.and_eq_true,beq_iff_eq,Prod.mk.injEq])
  clear hr1 hr2 TH HT;cases r1 <;> cases r2
  all_goals
   go_wp2;refine wp_region_quiet_below (by kernel_rfl) (by kernel_rfl) ?_
   repeat (go_big_quiet_step (fail))
   refine wpQuiet_nil ?_;intro _ hw';obtain⟨⟨dq,osq⟩,hw''⟩:=hw';subst hw'';go_wp2
   go_ret2
   exact⟨by rw [R.out]; rfl,BN.out _ _⟩
 ·have TH:=J (show th=aM from by
   rw [<- HT.out,qL,HK.out,List.getElem?_eq_none (by rw [<- HA.out.len,HN.out]; omega)])
  have g4:decide ((k:Int)<(n:Int))=aM:=by simp; omega
  clear hb HT;go_wp2;refine wp_region_quiet_below (by kernel_rfl) (by kernel_rfl) ?_
  repeat (go_big_quiet_step (fail))
  refine wpQuiet_nil ?_;intro _ hw';obtain⟨⟨dq,osq⟩,hw''⟩:=hw';subst hw'';go_wp2
  go_ret2
  exact⟨by rw [TH.out]; rfl,BN.out _ _⟩
def cutV (v:Sl) (f k:Nat):Sl:=match v with
 | (L a,_,c)=>(L (if c=f then a else a.add (f * 7)),k,c-f)
 | (au,_,_)=>(au,0,0)
theorem Ul {α:Type} (p:α->Bool):∀ (l:List α) (j:Nat) (y:α),j<(l.takeWhile p).length->l[j]?=L y->p y=aP
 | [],_,_,_,h=>by simp at h
 | a::l,j,y,hj,h=>by
  by_cases ha:p a=aP
  ·rw [ay,if_pos ha,aT] at hj;cases j with
   | zero=>rw [<- aI (show L a=L y from h)]; exact ha
   | succ j=>exact Ul p l j y (by omega) (by simpa using h)
  ·rw [ay,if_neg ha] at hj;simp at hj
theorem Um {α:Type} (p:α->Bool):∀ (l:List α) (y:α),l[(l.takeWhile p).length]?=L y->p y=aM
 | [],_,h=>by simp at h
 | a::l,y,h=>by
  by_cases ha:p a=aP
  ·rw [ay,if_pos ha,aT] at h;exact Um p l y (by simpa using h)
  ·rw [ay,if_neg ha] at h;rw [<- aI (show L a=L y from h)];simpa using ha
theorem Pt (a:aZ) (f e len cap:Nat) (h:f<=e) (h6:e<=cap) (w:aO):(Instr.sliceAt 30 (ak (L a) len cap) (L (O Q f)) (L (O Q e)) au).run V w=.ok (dR (cutV (L a,len,cap) f (e-f))) w:=by
 have h1:(f:Int)<=(e:Int):=by omega
 have h3:(e:Int)<=cap:=by omega
 obtain⟨i,i1,i2,i3,i4⟩:=mY.info;have i1':Tryz.prog.info? 68=L i:=i1;have hu':Tryz.prog.underlying 30=L (.slice 68):=mY.hu;have i3':i.size=7:=i3;by_cases he:cap=f
 ·subst he;obtain rfl:e=cap:=by omega
  simp [go_sem,hu',sizeOf,typeInfo,i1',i3',cutV]
 ·simp [go_sem,hu',sizeOf,typeInfo,i1',i3',cutV,he,h,h6]
theorem Mx {W:aO} {v:Sl} {l:List iA} (h:jZ W (dR v) l) (f k:Nat) (hk:f+k<=l.length) :
  (∀ w,(Instr.sliceAt 30 (dR v) (L (O Q f)) (L (O Q ((f+k:Nat):Int))) au).run V w=.ok (dR (cutV v f k)) w)/\jZ W (dR (cutV v f k)) ((l.drop f).take k):=by
 obtain⟨so,sn,sc⟩:=v;rcases h with⟨rfl,hv⟩|⟨a,cap,hv,h2,h3,h4⟩
 ·obtain⟨rfl,rfl,rfl⟩:so=au/\sn=0/\sc=0:=by simpa using hv
  obtain⟨rfl,rfl⟩:f=0/\k=0:=by simp at hk; omega
  refine⟨fun w=>?_,Or.inl ⟨rfl,rfl⟩⟩;obtain⟨i,i1,i2,i3,i4⟩:=mY.info;have i1':Tryz.prog.info? 68=L i:=i1;have hu':Tryz.prog.underlying 30=L (.slice 68):=mY.hu;simp [go_sem,hu',sizeOf,typeInfo,i1',cutV]
 ·obtain⟨rfl,rfl,rfl⟩:so=L a/\sn=l.length/\sc=cap:=by simpa using hv
  refine⟨fun w=>by have h:=Pt a f (f+k) l.length sc (Nat.le_add_right _ _) (Nat.le_trans hk h2) w; rwa [Nat.add_sub_cancel_left] at h,?_⟩;refine Or.inr ⟨(if sc=f then a else a.add (f * 7)),sc-f,?_,?_,by omega,fun j u hj=>?_⟩
  ·have e:((l.drop f).take k).length=k:=by rw [aF,aG]; omega
   rw [e]
   rfl
  ·rw [aF,aG]; omega
  ·have hlt:=(ah.1 hj).1;have hlen:(flat EN ((l.drop f).take k)).length=k * 7:=by
    rw [dZ mY,aF,aG];show _ * 7=_;rw [show min k (l.length-f)=k by omega]
   rw [hlen] at hlt;rw [if_neg (by omega),add_add];refine h4 _ u ?_;have e1:flat EN l=flat EN (l.take f)++(flat EN ((l.drop f).take k)++flat EN ((l.drop f).drop k)):=by
    rw [<- gJ,aQ,<- gJ,aQ]
   have e2:(flat EN (l.take f)).length=f * 7:=by
    rw [dZ mY,aF];show _ * 7=_;rw [show min f l.length=f by omega]
   rw [e1,List.getElem?_append_right (by rw [e2]; omega),e2,show f * 7+j-f * 7=j by omega,List.getElem?_append_left (by rw [hlen]; exact hlt)];exact hj
theorem wX (m:List En) (t:eO):jE m t+(qY m t).length<=m.length:=by
 have h1:(qY m t).length<=(m.drop (jE m t)).length:=(aB _).length_le;have h2:jE m t<=m.length:=(aB _).length_le;rw [aG] at h1;omega
theorem Ag (v:Sl) (l:List iA) (m:List En) (t:eO) (w:aO) (hv:jZ w (dR v) l) (hA:eB (iW w) l m) (hr:kG m) (hl:l.length<=1000) :
  aR V 46 #[dR v,mD t] w fun e w'=>e=U (dR (cutV v (jE m t) (qY m t).length))/\Below w.heap.size w w':=by
 have hfk:=wX m t;have hML:l.length=m.length:=hA.len;obtain⟨f,hf⟩:∃ f,jE m t=f:=⟨_,rfl⟩;obtain⟨k,hk⟩:∃ k,(qY m t).length=k:=⟨_,rfl⟩;rw [hf,hk] at hfk ⊢;have RC:=J ((Mx hv f k (by omega)).1);obtain⟨so,n,sc⟩:=v;generalize cutV (so,n,sc) f k=z at RC ⊢;obtain⟨z1,z2,z3⟩:=z;have hn:l.length=n:=rY hv;obtain⟨c,d⟩:=t;obtain⟨h0,X,Y⟩:=gK w #[ak so n sc] #[O Q c,O Q d] 30 38;have BB:=J h0;have HV:=J (hv.on h0);have HA:=J (hA.mono fun _ _ q=>q.on h0);have X1:=J X;have Y1:=J Y;have x0:=X.cell 0;simp only [aD,aA] at x0;have FL:∀ (i:Nat) (e:En),i<f->m[i]?=L e->eu e.tree (c,d)=aP:=fun i e hi he=>Ul (fun e:En=>eu e.tree (c,d)) m i e (by unfold jE at hf; omega) he;have FH:∀ (i:Nat) (e:En),f<=i->m[i]?=L e->eu e.tree (c,d)=aM:=fun i e hi he=>by
  refine J3 (c,d) hr e ?_;rw [<- zF];unfold jE at hf;rw [hf];exact List.mem_of_getElem? (show (m.drop f)[i-f]?=L e by rw [aJ,show f+(i-f)=i by omega]; exact he)
 have BL:=J (show ∀ (i:Nat) (e:En),i<k->m[f+i]?=L e->e.tree=(c,d) from fun i e hi he=>by
  have:=Ul (fun e:En=>decide (e.tree=(c,d))) (m.drop f) i e (by unfold qY at hk; rw [hf] at hk; omega) (by rw [aJ]; exact he);exact of_decide_eq_true this)
 have BH:=J (show ∀ (e:En),m[f+k]?=L e->e.tree≠(c,d) from fun e he=>by
  have:=Um (fun e:En=>decide (e.tree=(c,d))) (m.drop f) e (by unfold qY at hk; rw [hf] at hk; rw [hk,aJ]; exact he);exact of_decide_eq_false this)
 have HF:=J (show ∀ i,i<n->∀ W,Below ((w.alloc (aC #[ak so n sc] 30)).alloc (aC #[O Q c,O Q d] 38)).heap.size ((w.alloc (aC #[ak so n sc] 30)).alloc (aC #[O Q c,O Q d] 38)) W ->
   aR V 79 (#[O Q i]++#[aj (L ⟨w.heap.size,0,au⟩),aj (L ⟨w.heap.size+1,0,au⟩)]) W fun e w'=>e=U (aK ((fun i=>match l[i]? with | some y=>!eu (y.1,y.2.1) (c,d) | none=>aP) i))/\Below W.heap.size W w' from fun i hi W hb=>by
  obtain⟨y,hy⟩:∃ y,l[i]?=L y:=⟨_,D (by omega)⟩;refine Xz i _ _ so n sc l (c,d) y _ W (HV.out.on hb) hn hy ?_ (X1.out.on hb) (Y1.out.on hb);simp only [hy])
 have HLO:=J (show ∀ i,i<f->(fun i=>match l[i]? with | some y=>!eu (y.1,y.2.1) (c,d) | none=>aP) i=aM from fun i hi=>by
  obtain⟨y,hy⟩:∃ y,l[i]?=L y:=⟨_,D (by omega)⟩;obtain⟨e,he,hke,hx⟩:=kI HA.out hy;have h1:=FL i e hi he;rw [<- hx.1] at h1;simp only [hy,h1]
  rfl)
 have HHI:=J (show ∀ i,f<=i->i<n->(fun i=>match l[i]? with | some y=>!eu (y.1,y.2.1) (c,d) | none=>aP) i=aP from fun i hi hi2=>by
  obtain⟨y,hy⟩:∃ y,l[i]?=L y:=⟨_,D (by omega)⟩;obtain⟨e,he,hke,hx⟩:=kI HA.out hy;have h1:=FH i e hi he;rw [<- hx.1] at h1;simp only [hy,h1]
  rfl)
 have HN:=J hn;have ln:n<=1000:=by omega
 have aj1:f+k<=n:=by omega
 clear hv hA h0 X Y hk hf hl hn hr hfk hML FL FH;go_enter Tryz.func46,Tryz.ntmps46;go_wp2_with fail;generalize (w.alloc (aC #[ak so n sc] 30)).alloc (aC #[O Q c,O Q d] 38)=W at *;refine (Ae 79 #[aj (L ⟨w.heap.size,0,au⟩),aj (L ⟨w.heap.size+1,0,au⟩)] Xx n f _ W (by omega) HF.out (by omega) HLO.out HHI.out).mono ?_;rintro e1 w1 ⟨rfl,hb⟩;have B1:=J hb;clear x0 HF HLO HHI hb;go_wp2
 go_loopw [6] (fun i wr=>∃ j:Nat,j<=k/\i=O Q ((f+j:Nat):Int)/\Below W.heap.size W wr) (fun i _=>f+k-(intOf i).toNat)
 case atStart=>exact⟨0,Nat.zero_le _,by simp,B1.out⟩
 case round =>
  obtain⟨j,hj,rfl,hbe⟩:=hrel;have BE:=J hbe;have a0:=K (show wr.cell? ⟨w.heap.size,0,au⟩=L (ak so n sc) from (X1.out.on hbe).cell 0);have b0:=K (show wr.cell? ⟨w.heap.size+1,0,au⟩=L (O Q c) from (Y1.out.on hbe).cell 0);have b1:=K (show wr.cell? ⟨w.heap.size+1,1,au⟩=L (O Q d) from (Y1.out.on hbe).cell 1);have BN:=J (fun dq osq=>BE.out.trans ((aN wr dq osq).mono BE.out.size));clear hbe;by_cases hjk:j<k
  ·obtain⟨y,hy⟩:∃ y,l[f+j]?=L y:=⟨_,D (by rw [HN.out]; omega)⟩;obtain⟨p,ix,p0,p1,p2,p3,p4,p5,p6⟩:=Af HV.out rfl HN.out hy BE.out;obtain⟨e,he,_,hx⟩:=kI HA.out hy;have ht:(y.1,y.2.1)=(c,d):=hx.1.trans (BL.out j e hjk he);have hjn:f+j<n:=by omega
   have g4:decide (((f+j:Nat):Int)<(n:Int))=aP:=by simp; omega
   have hw3:IntKind.i64.wrap (((f+j:Nat):Int)+1)=((f+(j+1):Nat):Int):=by rw [IntWalk.i64_in _ (by omega)]; omega
   obtain⟨y1,y2,y3,y4,⟨yo,yn,yc⟩,y6,y7⟩:=y;obtain⟨rfl,rfl⟩:y1=c/\y2=d:=by simpa using ht
   simp only at p0 p1;have e1:=rz y1 y2 y1 y2 aP (by simp);clear p2 p3 p4 p5 p6 hy he hx ht;generalize hq:f+j=q at *;have HQ:=J hq;clear hq;go_wp2;refine wp_region_quiet_below (by kernel_rfl) (by kernel_rfl) ?_
   repeat (go_big_quiet_step (fail))
   refine wpQuiet_nil ?_;intro _ hw';obtain⟨⟨dq,osq⟩,hw''⟩:=hw';subst hw'';go_wp2
   go_roundw
   case rel=>exact⟨j+1,by omega,by rfl,BN.out _ _⟩
   case measure =>
    have hq:=HQ.out;simp [intOf];omega
  ·obtain rfl:j=k:=by omega
   have RC2:=RC.out;by_cases hjn:f+j<n
   ·obtain⟨y,hy⟩:∃ y,l[f+j]?=L y:=⟨_,D (by rw [HN.out]; omega)⟩;obtain⟨p,ix,p0,p1,p2,p3,p4,p5,p6⟩:=Af HV.out rfl HN.out hy BE.out;obtain⟨e,he,_,hx⟩:=kI HA.out hy;have ht:(y.1,y.2.1)≠(c,d):=fun q=>BH.out e he (hx.1.symm.trans q);have g4:decide (((f+j:Nat):Int)<(n:Int))=aP:=by simp; omega
    obtain⟨y1,y2,y3,y4,⟨yo,yn,yc⟩,y6,y7⟩:=y;simp only at p0 p1;have e1:=rz y1 y2 c d aM (aL.2 fun h=>ht (by simp at h; rw [h.1,h.2]));clear p2 p3 p4 p5 p6 hy he hx ht;generalize f+j=q at *;go_wp2;refine wp_region_quiet_below (by kernel_rfl) (by kernel_rfl) ?_
    repeat (go_big_quiet_step (fail))
    refine wpQuiet_nil ?_;intro _ hw';obtain⟨⟨dq,osq⟩,hw''⟩:=hw';subst hw'';have a0:=a0 dq osq;go_wp2;go_ret;exact⟨rfl,BB.out.trans ((BN.out _ _).mono BB.out.size)⟩
   ·have g4:decide (((f+j:Nat):Int)<(n:Int))=aM:=by simp; omega
    generalize f+j=q at *;go_wp2;refine wp_region_quiet_below (by kernel_rfl) (by kernel_rfl) ?_
    repeat (go_big_quiet_step (fail))
    refine wpQuiet_nil ?_;intro _ hw';obtain⟨⟨dq,osq⟩,hw''⟩:=hw';subst hw'';have a0:=a0 dq osq;go_wp2;go_ret;exact⟨rfl,BB.out.trans ((BN.out _ _).mono BB.out.size)⟩
end Go.Proofs.YtkcfgbddlpomgaaGreat.Sb
