/-
  ahead, place and bra. Conditions as told.
-/
import Derived.Test.YtkcfgbddlpomgaaGreatLQ034
import Derived.Shelf.Abstract
set_option maxRecDepth 100000
set_option maxHeartbeats 64000000
open _root_.Go renaming cell_regrown->D,redrawn->ak,below_regrown->aF,World->aG,Calls->aI,Value->aN
open Go.Ending renaming returned->L
open Go.IntKind renaming i64->Q
open Go.Lib renaming hid->J
open Go.Obj renaming cells->aD
open Go.Proofs.Tryz renaming prog->V,ntmps82->aJ,func82->aK,func81->aL,func79->aM
open Go.Value renaming int->O,pointer->aj,slice->au,bool->aA
open _root_.List renaming getElem?_eq_getElem->K,getElem?_eq_some_iff->U,getElem?_cons_zero->aB,getElem?_toArray->aC,getElem?_map->aH
open _root_.Option renaming some->ah,none->ay
namespace Go.Proofs.YtkcfgbddlpomgaaGreat.Sb
open Go.RowKit Go.Sort Rw YtkcfgbddlpomgaaGreat.Nm Pr Bk Av
theorem OQ (x:iF) (t s:eG) (r:Bool) (hr:jc (iH x) (t,s)=r) (w:aG):aI V 82 #[qZ x,lV t,lV s] w fun e w'=>e=L (aA r)/\Below w.heap.size w w':=by
 obtain⟨y1,y2,y3,y4,⟨yo,yn,yc⟩,y6,y7⟩:=x;obtain⟨c,d⟩:=t;obtain⟨g,h⟩:=s;obtain⟨h0,X,Y,Z⟩:=gM w #[O Q y1,O Q y2,O Q y3,O Q y4,au yo yn yc,O Q y6,aA y7] #[O Q c,O Q d] #[O Q g,O Q h] 68 38 38;have x1:=X.cell 1;have x0:=X.cell 0;have x2:=X.cell 2;have x3:=X.cell 3;obtain⟨c0,c1⟩:=Y.cs2;obtain⟨d0,d1⟩:=Z.cs2;simp only [aC,aB,List.getElem?_cons_succ] at x0 x1 x2 x3;have C1:=wC (y1,y2) (c,d);have C2:=wC (y3,y4) (g,h);have B:=J h0;have he:jc ((y1,y2),(y3,y4)) ((c,d),(g,h))=if ((y1,y2):eG)=(c,d) then dZ (y3,y4) (g,h) else dZ (y1,y2) (c,d):=by
  unfold jc;by_cases q:((y1,y2):eG)=(c,d)
  ·rw [if_pos q,q,j5,(xS _ _).2 rfl]; rfl
  ·rw [if_neg q,Bool.eq_false_iff.2 fun q2=>q ((xS _ _).1 q2)]; simp
 clear h0 X Y Z;by_cases q:((y1,y2):eG)=(c,d)
 ·have hr2:=J (show dZ (y3,y4) (g,h)=r by rw [<- hr]; show _=jc ((y1,y2),(y3,y4)) ((c,d),(g,h)); rw [he,if_pos q]);obtain⟨rfl,rfl⟩:y1=c/\y2=d:=by simpa using q
  have hne:=VL y1 y2 y1 y2 false (by simp);clear he hr q;go_enter aK,aJ;go_wp2_with fail;refine (C2 _).mono ?_;rintro e w1 ⟨rfl,hb⟩;go_wp2;go_ret;exact⟨congrArg (fun b=>L (aA b)) hr2.out,B.out.trans (hb.mono B.out.size)⟩
 ·have hr2:=J (show dZ (y1,y2) (c,d)=r by rw [<- hr]; show _=jc ((y1,y2),(y3,y4)) ((c,d),(g,h)); rw [he,if_neg q]);have hne:=VL y1 y2 c d true (by rw [show (y1 == c && y2 == d)=false from Bool.eq_false_iff.2 fun h=>q (by simp at h; rw [h.1,h.2])]; rfl);clear he hr q;go_enter aK,aJ;go_wp2_with fail;refine (C1 _).mono ?_;rintro e w1 ⟨rfl,hb⟩;go_wp2;go_ret;exact⟨congrArg (fun b=>L (aA b)) hr2.out,B.out.trans (hb.mono B.out.size)⟩
theorem zS (g:Nat) (cb:Array aN) (eg:∀ args w,(callFunc g args).run V w=.ok (.enter g args) w) (n k:Nat) (p:Nat->Bool) (w:aG) (hn:n<=1000000)
  (hf:∀ i,i<n->∀ W,Below w.heap.size w W->aI V g (#[O Q i]++cb) W fun e w'=>e=L (aA (p i))/\Below W.heap.size W w')
  (hk:k<=n) (hlo:∀ i,i<k->p i=false) (hhi:∀ i,k<=i->i<n->p i=true) :
  aI V 78 #[O Q n,.func (.func g) #[] cb] w fun e w'=>e=L (O Q k)/\Below w.heap.size w w':=by
 have HF:=J hf;have LO:=J hlo;have HI:=J hhi;clear hf hlo hhi;go_enter Tryz.func78,Tryz.ntmps78;go_wp2
 go_loopg [5,6] n (fun kx s5 s6 wr=>∃ lo hi:Nat,s5=O Q lo/\s6=O Q hi/\lo<=k/\k<=hi/\hi<=n/\hi-lo<=kx/\Below w.heap.size w wr)
 case atStart=>exact⟨0,n,rfl,rfl,Nat.zero_le _,hk,Nat.le_refl _,by omega,Below.refl _ _⟩
 case round =>
  obtain⟨lo,hi,rfl,rfl,hlk,hkh,hin,hg,hb⟩:=hrel;have B:=J hb;clear hb;by_cases hlt:lo<hi
  ·have hc:=HF.out ((lo+hi) / 2) (by omega) wr B.out;rw [show (((lo+hi) / 2:Nat):Int)=((lo:Int)+(hi:Int)) / 2 by omega] at hc;cases hp:p ((lo+hi) / 2) <;> rw [hp] at hc
   ·have HP:=J hp;have HK:=J (show (lo+hi) / 2+1<=k from by
     rcases Nat.lt_or_ge ((lo+hi) / 2) k with h|h
     ·exact h
     ·have:=HI.out _ h (by omega); rw [hp] at this; cases this)
    clear hp;go_wp2_with (go_at_fn g; refine hc.mono ?_; rintro e w' ⟨rfl,hb2⟩)
    go_roundg (hi-((lo+hi) / 2+1))
    case measure=>omega
    case rel=>exact⟨(lo+hi) / 2+1,hi,by rw [show ((lo:Int)+(hi:Int)) / 2+1=(((lo+hi) / 2+1:Nat):Int) by omega],rfl,HK.out,hkh,hin,Nat.le_refl _,B.out.trans (hb2.mono B.out.size)⟩
   ·have HP:=J hp;have HK:=J (show k<=(lo+hi) / 2 from by
     rcases Nat.lt_or_ge ((lo+hi) / 2) k with h|h
     ·have:=LO.out _ h; rw [hp] at this; cases this
     ·exact h)
    clear hp;go_wp2_with (go_at_fn g; refine hc.mono ?_; rintro e w' ⟨rfl,hb2⟩)
    go_roundg ((lo+hi) / 2-lo)
    case measure=>omega
    case rel=>exact⟨lo,(lo+hi) / 2,rfl,by rw [show ((lo:Int)+(hi:Int)) / 2=(((lo+hi) / 2:Nat):Int) by omega],hlk,HK.out,by omega,Nat.le_refl _,B.out.trans (hb2.mono B.out.size)⟩
  ·obtain rfl:hi=lo:=by omega
   obtain rfl:hi=k:=by omega
   go_wp2;go_ret;exact⟨rfl,B.out⟩
theorem zT {W W1:aG} {v:aN} {l:List iF} {ao:Option Addr} {n c k:Nat} {x:iF} (h:kC W v l) (hv:v=au ao n c) (hn:l.length=n) (hk:l[k]?=ah x) (hb:Below W.heap.size W W1) :
  ∃ p:Addr,(∀ w,(Instr.indexAt 30 (au ao n c) (O Q k)).run V w=.ok (aj (ah p)) w) /\
   (∀ d os,(grow (ak W1 d) os).cell? p=ah (O Q x.1))/\(∀ d os,(grow (ak W1 d) os).cell? ⟨p.block,p.off+1,ay⟩=ah (O Q x.2.1)) /\
   (∀ d os,(grow (ak W1 d) os).cell? ⟨p.block,p.off+2,ay⟩=ah (O Q x.2.2.1))/\(∀ d os,(grow (ak W1 d) os).cell? ⟨p.block,p.off+3,ay⟩=ah (O Q x.2.2.2.1)) /\
   (∀ d os,(grow (ak W1 d) os).cell? ⟨p.block,p.off+4,ay⟩=ah (dP x.2.2.2.2.1))/\(∀ d os,(grow (ak W1 d) os).cell? ⟨p.block,p.off+5,ay⟩=ah (O Q x.2.2.2.2.2.1)) /\
   (∀ d os,(grow (ak W1 d) os).cell? ⟨p.block,p.off+6,ay⟩=ah (aA x.2.2.2.2.2.2)):=by
 obtain⟨p,h1,h2⟩:=Px h hv hn hk;obtain⟨c0,c1,c2,c3,c4,c5,c6⟩:=h2 _ hb;exact⟨p,h1,D c0,D c1,D c2,D c3,D c4,D c5,D c6⟩
theorem WV (args:Array aN) (w:aG):(callFunc 81 args).run V w=.ok (.enter 81 args) w:=fV aL rfl rfl args w
theorem WW (args:Array aN) (w:aG):(callFunc 79 args).run V w=.ok (.enter 79 args) w:=fV aM rfl rfl args w
theorem WX (i:Nat) (b1 b2 b3:Nat) (ao:Option Addr) (n ac:Nat) (l:List iF) (t s:eG) (y:iF) (r:Bool) (w:aG) (hv:kC w (au ao n ac) l) (hn:l.length=n) (hy:l[i]?=ah y) (hr:(!jc (iH y) (t,s))=r)
  (h1:dI w b1 #[au ao n ac] 30) (h2:dI w b2 #[O Q t.1,O Q t.2] 38) (h3:dI w b3 #[O Q s.1,O Q s.2] 38) :
  aI V 81 #[O Q i,aj (ah ⟨b1,0,ay⟩),aj (ah ⟨b2,0,ay⟩),aj (ah ⟨b3,0,ay⟩)] w fun e w'=>e=L (aA r)/\Below w.heap.size w w':=by
 obtain⟨p,ix,p0,p1,p2,p3,p4,p5,p6⟩:=zT hv rfl hn hy (Below.refl _ _);have a0:=D (h1.cell 0);have b0:=D (h2.cell 0);have b1':=D (h2.cell 1);have c0:=D (h3.cell 0);have c1:=D (h3.cell 1);obtain⟨q,hq⟩:∃ q,jc (iH y) (t,s)=q:=⟨_,rfl⟩;have C:∀ k os,aI V 82 #[qZ y,lV t,lV s] (grow (ak w k) os) fun e w''=>e=L (aA q)/\∃ p:Regrown,w''=grow (ak w p.d) p.os:=fun k os=>Calls.regrown_of (OQ y t s q hq _);rw [hq] at hr;have R:=J hr;have BN:=J (fun dq osq=>aF w dq osq);obtain⟨y1,y2,y3,y4,⟨yo,yn,yc⟩,y6,y7⟩:=y;obtain⟨c,d⟩:=t;obtain⟨g,h⟩:=s;simp only at p0 p1 p2 p3 p4 p5 p6 b0 b1' c0 c1 C;clear hv hn hy hr hq h1 h2 h3;go_enter aL,Tryz.ntmps81;go_wp2;refine wp_region_quiet_below (by kernel_rfl) (by kernel_rfl) ?_
 repeat (go_big_quiet_step (first | (with_reducible exact C _ _) | exact abj _ _))
 refine wpQuiet_nil ?_;intro _ hw';obtain⟨⟨dq,osq⟩,hw''⟩:=hw';subst hw'';go_wp2;go_ret;exact⟨congrArg (fun b=>L (aA b)) R.out,BN.out _ _⟩
theorem WY (i:Nat) (b1 b2:Nat) (ao:Option Addr) (n ac:Nat) (l:List iF) (t:eG) (y:iF) (r:Bool) (w:aG) (hv:kC w (au ao n ac) l) (hn:l.length=n) (hy:l[i]?=ah y) (hr:(!dZ (y.1,y.2.1) t)=r)
  (h1:dI w b1 #[au ao n ac] 30) (h2:dI w b2 #[O Q t.1,O Q t.2] 38) :
  aI V 79 #[O Q i,aj (ah ⟨b1,0,ay⟩),aj (ah ⟨b2,0,ay⟩)] w fun e w'=>e=L (aA r)/\Below w.heap.size w w':=by
 obtain⟨p,ix,p0,p1,p2,p3,p4,p5,p6⟩:=zT hv rfl hn hy (Below.refl _ _);have a0:=D (h1.cell 0);have b0:=D (h2.cell 0);have b1':=D (h2.cell 1);have C:∀ k os,aI V 80 #[lV (y.1,y.2.1),lV t] (grow (ak w k) os) fun e w''=>e=L (aA (dZ (y.1,y.2.1) t))/\∃ p:Regrown,w''=grow (ak w p.d) p.os:=fun k os=>Calls.regrown_of (wC (y.1,y.2.1) t _);generalize dZ (y.1,y.2.1) t=q at *;have R:=J hr;have BN:=J (fun dq osq=>aF w dq osq);obtain⟨y1,y2,y3,y4,⟨yo,yn,yc⟩,y6,y7⟩:=y;obtain⟨c,d⟩:=t;simp only at p0 p1 p2 p3 p4 p5 p6 b0 b1' C;clear hv hn hy hr h1 h2 p2 p3 p4 p5 p6;go_enter aM,Tryz.ntmps79;go_wp2;refine wp_region_quiet_below (by kernel_rfl) (by kernel_rfl) ?_
 repeat (go_big_quiet_step (first | (with_reducible exact C _ _) | exact ab1 _ _))
 refine wpQuiet_nil ?_;intro _ hw';obtain⟨⟨dq,osq⟩,hw''⟩:=hw';subst hw'';go_wp2;go_ret;exact⟨congrArg (fun b=>L (aA b)) R.out,BN.out _ _⟩
theorem rZ {α:Type} {E:Ek α} {W:aG} {so:Option Addr} {sn sc:Nat} {l:List α} (h:Row E W (au so sn sc) l):l.length=sn:=by
 obtain⟨ao,ac,hv⟩:=h.len;simp at hv;exact hv.2.1.symm
theorem kH {W:aG} {l:List iF} {m:List En} (h:eu (je W) l m) {i:Nat} {y:iF} (hy:l[i]?=ah y):∃ e,m[i]?=ah e/\iH y=fu e/\je W y e:=by
 have hlt:=(U.1 hy).1;obtain⟨e,he⟩:∃ e,m[i]?=ah e:=⟨_,K (by rw [<- h.len]; exact hlt)⟩;obtain⟨y',hy',hx⟩:=h.at i e he;rw [hy] at hy';obtain rfl:=Option.some.inj hy';exact⟨e,he,Prod.ext hx.1 hx.2.1,hx⟩
theorem OY {m:List En} (hr:kg m) {i j:Nat} {x y:En} (hij:i<j) (hx:m[i]?=ah x) (hy:m[j]?=ah y):xE x y<0:=by
 obtain⟨h1,rfl⟩:=U.1 hx;obtain⟨h2,rfl⟩:=U.1 hy;exact List.pairwise_iff_getElem.1 hr i j h1 h2 hij
theorem kY (l:List (eG×eG)) (x:eG×eG):eH l x<=l.length:=(List.takeWhile_sublist _).length_le
theorem uT {m:List En} (hr:kg m) (x:eG×eG) {i:Nat} {e:En} (hi:eH (m.map fu) x<=i) (he:m[i]?=ah e):jc (fu e) x=false:=by
 have hlt:=(U.1 he).1;obtain⟨z,hz⟩:∃ z,m[eH (m.map fu) x]?=ah z:=⟨_,K (by omega)⟩;have h0:=wL (m.map fu) x (fu z) (by rw [aH,hz]; rfl);rcases Nat.lt_or_ge (eH (m.map fu) x) i with h|h
 ·have h1:=OY hr h hz he;cases hq:jc (fu e) x with
  | false=>rfl
  | true =>
   rw [<- qb] at h1;have h2:xE z ⟨x.1,x.2,[],0,false⟩<0:=Ed z e ⟨x.1,x.2,[],0,false⟩ ((qb z e).1 h1) ((qb e ⟨x.1,x.2,[],0,false⟩).1 hq);rw [<- qb] at h2;rw [show jc (fu z) x=true from h2] at h0;cases h0
 ·have e1:i=eH (m.map fu) x:=by omega
  rw [e1,hz] at he;rw [<- Option.some.inj he];exact h0
theorem OZ (v:Sl) (l:List iF) (m:List En) (t s:eG) (w:aG) (hv:kC w (dP v) l) (hA:eu (je w) l m) (hr:kg m) (hl:l.length<=1000) :
  aI V 48 #[dP v,lV t,lV s] w fun e w'=>e=L (.tuple #[O Q (eH (m.map fu) (t,s)),aA (qU m t s)])/\Below w.heap.size w w':=by
 obtain⟨so,n,sc⟩:=v;have hn:l.length=n:=rZ hv;obtain⟨c,d⟩:=t;obtain⟨g,h⟩:=s;obtain⟨k,hk⟩:∃ k,eH (m.map fu) ((c,d),(g,h))=k:=⟨_,rfl⟩;obtain⟨th,hth⟩:∃ k,qU m (c,d) (g,h)=k:=⟨_,rfl⟩;have hkn:k<=n:=by rw [<- hk,<- hn,hA.len]; simpa using kY (m.map fu) ((c,d),(g,h))
 rw [hk,hth];obtain⟨h0,X,Y,Z⟩:=gM w #[au so n sc] #[O Q c,O Q d] #[O Q g,O Q h] 30 38 38;have BB:=J h0;have HV:=J (hv.on h0);have HA:=J (hA.mono fun _ _ q=>q.on h0);have X1:=J X;have Y1:=J Y;have Z1:=J Z;have x0:=X.cell 0;simp only [aC,aB] at x0;have HF:=J (show ∀ i,i<n->∀ W,Below (((w.alloc (aD #[au so n sc] 30)).alloc (aD #[O Q c,O Q d] 38)).alloc (aD #[O Q g,O Q h] 38)).heap.size (((w.alloc (aD #[au so n sc] 30)).alloc (aD #[O Q c,O Q d] 38)).alloc (aD #[O Q g,O Q h] 38)) W ->
   aI V 81 (#[O Q i]++#[aj (ah ⟨w.heap.size,0,ay⟩),aj (ah ⟨w.heap.size+1,0,ay⟩),aj (ah ⟨w.heap.size+1+1,0,ay⟩)]) W fun e w'=>e=L (aA ((fun i=>match l[i]? with | some y=>!jc (iH y) ((c,d),(g,h)) | none=>true) i))/\Below W.heap.size W w' from fun i hi W hb=>by
  obtain⟨y,hy⟩:∃ y,l[i]?=ah y:=⟨_,K (by omega)⟩;refine WX i _ _ _ so n sc l (c,d) (g,h) y _ W (HV.out.on hb) hn hy ?_ (X1.out.on hb) (Y1.out.on hb) (Z1.out.on hb);simp only [hy])
 have HLO:=J (show ∀ i,i<k->(fun i=>match l[i]? with | some y=>!jc (iH y) ((c,d),(g,h)) | none=>true) i=false from fun i hi=>by
  obtain⟨y,hy⟩:∃ y,l[i]?=ah y:=⟨_,K (by omega)⟩;obtain⟨e,he,hke,_⟩:=kH HA.out hy;have h1:=qd (m.map fu) ((c,d),(g,h)) i (fu e) (by rw [hk]; exact hi) (by rw [aH,he]; rfl);simp only [hy,hke,h1]
  rfl)
 have HHI:=J (show ∀ i,k<=i->i<n->(fun i=>match l[i]? with | some y=>!jc (iH y) ((c,d),(g,h)) | none=>true) i=true from fun i hi hi2=>by
  obtain⟨y,hy⟩:∃ y,l[i]?=ah y:=⟨_,K (by omega)⟩;obtain⟨e,he,hke,_⟩:=kH HA.out hy;have h1:=Sb.uT hr ((c,d),(g,h)) (by rw [hk]; exact hi) he;simp only [hy,hke,h1]
  rfl)
 have HK:=J hk;have HT:=J hth;have HN:=J hn;have ln:n<=1000:=by omega
 clear hv hA h0 X Y Z hk hth hl hn hr;go_enter Tryz.func48,Tryz.ntmps48;go_wp2_with fail;generalize ((w.alloc (aD #[au so n sc] 30)).alloc (aD #[O Q c,O Q d] 38)).alloc (aD #[O Q g,O Q h] 38)=W at *;refine (zS 81 #[aj (ah ⟨w.heap.size,0,ay⟩),aj (ah ⟨w.heap.size+1,0,ay⟩),aj (ah ⟨w.heap.size+1+1,0,ay⟩)] WV n k _ W (by omega) HF.out hkn HLO.out HHI.out).mono ?_;rintro e1 w1 ⟨rfl,hb⟩;have BN:=J (fun dq osq=>(BB.out.trans (hb.mono BB.out.size)).trans ((aF w1 dq osq).mono (BB.out.trans (hb.mono BB.out.size)).size));have a0:=D (show w1.cell? ⟨w.heap.size,0,ay⟩=ah (au so n sc) from (X1.out.on hb).cell 0);have b0:=D (show w1.cell? ⟨w.heap.size+1,0,ay⟩=ah (O Q c) from (Y1.out.on hb).cell 0);have b1:=D (show w1.cell? ⟨w.heap.size+1,1,ay⟩=ah (O Q d) from (Y1.out.on hb).cell 1);have c0:=D (show w1.cell? ⟨w.heap.size+1+1,0,ay⟩=ah (O Q g) from (Z1.out.on hb).cell 0);have c1:=D (show w1.cell? ⟨w.heap.size+1+1,1,ay⟩=ah (O Q h) from (Z1.out.on hb).cell 1);clear x0 HF HLO HHI;by_cases hkl:k<n
 ·obtain⟨y,hy⟩:∃ y,l[k]?=ah y:=⟨_,K (by rw [HN.out]; exact hkl)⟩;obtain⟨p,ix,p0,p1,p2,p3,p4,p5,p6⟩:=zT HV.out rfl HN.out hy hb;have TH:=J (show th=decide (iH y=((c,d),(g,h))) from by
   obtain⟨e,he,hke,_⟩:=kH HA.out hy;rw [<- HT.out,qU,HK.out,he,hke])
  have g4:decide ((k:Int)<(n:Int))=true:=by simp; omega
  obtain⟨y1,y2,y3,y4,⟨yo,yn,yc⟩,y6,y7⟩:=y;simp only at p0 p1 p2 p3;clear p4 p5 p6 hb hy;obtain⟨r1,hr1⟩:∃ r,(y1 == c && y2 == d)=r:=⟨_,rfl⟩;obtain⟨r2,hr2⟩:∃ r,(y3 == g && y4 == h)=r:=⟨_,rfl⟩;have e1:=uF y1 y2 c d r1 hr1;have e2:=uF y3 y4 g h r2 hr2;have R:=J (show th=(r1 && r2) from by
   rw [TH.out,<- hr1,<- hr2,Bool.eq_iff_iff];simp only [decide_eq_true_eq,Bool.and_eq_true,beq_iff_eq,Prod.mk.injEq])
  clear hr1 hr2 TH HT;cases r1 <;> cases r2
  all_goals
   go_wp2;refine wp_region_quiet_below (by kernel_rfl) (by kernel_rfl) ?_
   repeat (go_big_quiet_step (fail))
   refine wpQuiet_nil ?_;intro _ hw';obtain⟨⟨dq,osq⟩,hw''⟩:=hw';subst hw'';go_wp2
   go_ret2
   exact⟨by rw [R.out]; rfl,BN.out _ _⟩
 ·have TH:=J (show th=false from by
   rw [<- HT.out,qU,HK.out,List.getElem?_eq_none (by rw [<- HA.out.len,HN.out]; omega)])
  have g4:decide ((k:Int)<(n:Int))=false:=by simp; omega
  clear hb HT;go_wp2;refine wp_region_quiet_below (by kernel_rfl) (by kernel_rfl) ?_
  repeat (go_big_quiet_step (fail))
  refine wpQuiet_nil ?_;intro _ hw';obtain⟨⟨dq,osq⟩,hw''⟩:=hw';subst hw'';go_wp2
  go_ret2
  exact⟨by rw [TH.out]; rfl,BN.out _ _⟩
end Go.Proofs.YtkcfgbddlpomgaaGreat.Sb
