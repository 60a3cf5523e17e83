/-
  ahead, place and bra. Conditions as told.
-/
import Derived.Test.YtkcfgbddlpomgaaGreatOQ028
import Derived.Shelf.Abstract
set_option maxRecDepth 100000
set_option maxHeartbeats 64000000
open _root_.Bool renaming false->aN,true->aP,eq_false_iff->bF
open _root_.Go renaming cell_regrown->U,World->aJ,redrawn->aX,Calls->aY,below_regrown->bI,Value->bK,bodyPost_ret->bS,Addr->bV
open Go.Ending renaming returned->ay
open Go.IntKind renaming i64->Q
open Go.IntWalk renaming i64_in->bA
open Go.Lib renaming hid->D
open Go.Obj renaming cells->aG
open Go.Proofs.Tryz renaming prog->au,results24->bQ,ntmps82->bR,func82->bU,func81->bW,func79->bY
open Go.RowKit.Below renaming refl->aW
open Go.Value renaming int->O,slice->aj,bool->aF,pointer->aH,agg->bZ
open _root_.List renaming getElem?_eq_getElem->J,getElem?_eq_some_iff->ah,getElem?_cons_zero->aA,mem_of_getElem?->aC,getElem?_toArray->aD,getElem?_cons_succ->aI,length_take->aK,append_assoc->aM,takeWhile_sublist->aQ,take_append_drop->aR,getElem?_append_right->aS,length_drop->aT,getElem?_append_left->aU,takeWhile_cons->aV,getElem?_drop->bg,getElem?_set_self->bJ,getElem?_map->bN,length_cons->bO
open _root_.Nat renaming add_sub_cancel_left->aO,lt_or_ge->aZ,le_trans->bf,zero_le->bH,le_refl->bL,lt_of_lt_of_le->bM
open _root_.Option renaming some->ak,none->aB
open Option.some renaming inj->aL
namespace Go.Proofs.YtkcfgbddlpomgaaGreat
namespace Sb
open Go.RowKit Go.Sort Rw YtkcfgbddlpomgaaGreat.Nm Pr Bk Av
theorem Rh (x:iH) (t s:eT) (r:Bool) (hr:jC (jc x) (t,s)=r) (w:aJ):aY au 82 #[qg x,mY t,mY s] w fun e w'=>e=ay (aF r)/\Below w.heap.size w w':=by
 obtain⟨y1,y2,y3,y4,⟨yo,yn,yc⟩,y6,y7⟩:=x;obtain⟨c,d⟩:=t;obtain⟨g,h⟩:=s;obtain⟨h0,X,Y,Z⟩:=gX w #[O Q y1,O Q y2,O Q y3,O Q y4,aj yo yn yc,O Q y6,aF y7] #[O Q c,O Q d] #[O Q g,O Q h] 68 38 38;have x1:=X.cell 1;have x0:=X.cell 0;have x2:=X.cell 2;have x3:=X.cell 3;obtain⟨c0,c1⟩:=Y.cs2;obtain⟨d0,d1⟩:=Z.cs2;simp only [aD,aA,aI] at x0 x1 x2 x3;have C1:=yC (y1,y2) (c,d);have C2:=yC (y3,y4) (g,h);have B:=D h0;have he:jC ((y1,y2),(y3,y4)) ((c,d),(g,h))=if ((y1,y2):eT)=(c,d) then eO (y3,y4) (g,h) else eO (y1,y2) (c,d):=by
  unfold jC;by_cases q:((y1,y2):eT)=(c,d)
  ·rw [if_pos q,q,kU,(zy _ _).2 rfl]; rfl
  ·rw [if_neg q,bF.2 fun q2=>q ((zy _ _).1 q2)]; simp
 clear h0 X Y Z;by_cases q:((y1,y2):eT)=(c,d)
 ·have hr2:=D (show eO (y3,y4) (g,h)=r by rw [<- hr]; show _=jC ((y1,y2),(y3,y4)) ((c,d),(g,h)); rw [he,if_pos q]);obtain⟨rfl,rfl⟩:y1=c/\y2=d:=by simpa using q
  have hne:=Yv y1 y2 y1 y2 aN (by simp);clear he hr q;go_enter bU,bR;go_wp2_with fail;refine (C2 _).mono ?_;rintro e w1 ⟨rfl,hb⟩;go_wp2;go_ret;exact⟨congrArg (fun b=>ay (aF b)) hr2.out,B.out.trans (hb.mono B.out.size)⟩
 ·have hr2:=D (show eO (y1,y2) (c,d)=r by rw [<- hr]; show _=jC ((y1,y2),(y3,y4)) ((c,d),(g,h)); rw [he,if_neg q]);have hne:=Yv y1 y2 c d aP (by rw [show (y1 == c && y2 == d)=aN from bF.2 fun h=>q (by simp at h; rw [h.1,h.2])]; rfl);clear he hr q;go_enter bU,bR;go_wp2_with fail;refine (C1 _).mono ?_;rintro e w1 ⟨rfl,hb⟩;go_wp2;go_ret;exact⟨congrArg (fun b=>ay (aF b)) hr2.out,B.out.trans (hb.mono B.out.size)⟩
theorem Ce (g:Nat) (cb:Array bK) (eg:∀ args w,(callFunc g args).run au w=.ok (.enter g args) w) (n k:Nat) (p:Nat->Bool) (w:aJ) (hn:n<=1000000)
  (hf:∀ i,i<n->∀ W,Below w.heap.size w W->aY au g (#[O Q i]++cb) W fun e w'=>e=ay (aF (p i))/\Below W.heap.size W w')
  (hk:k<=n) (hlo:∀ i,i<k->p i=aN) (hhi:∀ i,k<=i->i<n->p i=aP) :
  aY au 78 #[O Q n,.func (.func g) #[] cb] w fun e w'=>e=ay (O Q k)/\Below w.heap.size w w':=by
 have HF:=D hf;have LO:=D hlo;have HI:=D hhi;clear hf hlo hhi;go_enter Tryz.func78,Tryz.ntmps78;go_wp2
 go_loopg [5,6] n (fun kx s5 s6 wr=>∃ lo hi:Nat,s5=O Q lo/\s6=O Q hi/\lo<=k/\k<=hi/\hi<=n/\hi-lo<=kx/\Below w.heap.size w wr)
 case atStart=>exact⟨0,n,rfl,rfl,bH _,hk,bL _,by omega,aW _ _⟩
 case round =>
  obtain⟨lo,hi,rfl,rfl,hlk,hkh,hin,hg,hb⟩:=hrel;have B:=D hb;clear hb;by_cases hlt:lo<hi
  ·have hc:=HF.out ((lo+hi) / 2) (by omega) wr B.out;rw [show (((lo+hi) / 2:Nat):Int)=((lo:Int)+(hi:Int)) / 2 by omega] at hc;cases hp:p ((lo+hi) / 2) <;> rw [hp] at hc
   ·have HP:=D hp;have HK:=D (show (lo+hi) / 2+1<=k from by
     rcases aZ ((lo+hi) / 2) k with h|h
     ·exact h
     ·have:=HI.out _ h (by omega); rw [hp] at this; cases this)
    clear hp;go_wp2_with (go_at_fn g; refine hc.mono ?_; rintro e w' ⟨rfl,hb2⟩)
    go_roundg (hi-((lo+hi) / 2+1))
    case measure=>omega
    case rel=>exact⟨(lo+hi) / 2+1,hi,by rw [show ((lo:Int)+(hi:Int)) / 2+1=(((lo+hi) / 2+1:Nat):Int) by omega],rfl,HK.out,hkh,hin,bL _,B.out.trans (hb2.mono B.out.size)⟩
   ·have HP:=D hp;have HK:=D (show k<=(lo+hi) / 2 from by
     rcases aZ ((lo+hi) / 2) k with h|h
     ·have:=LO.out _ h; rw [hp] at this; cases this
     ·exact h)
    clear hp;go_wp2_with (go_at_fn g; refine hc.mono ?_; rintro e w' ⟨rfl,hb2⟩)
    go_roundg ((lo+hi) / 2-lo)
    case measure=>omega
    case rel=>exact⟨lo,(lo+hi) / 2,rfl,by rw [show ((lo:Int)+(hi:Int)) / 2=(((lo+hi) / 2:Nat):Int) by omega],hlk,HK.out,by omega,bL _,B.out.trans (hb2.mono B.out.size)⟩
  ·obtain rfl:hi=lo:=by omega
   obtain rfl:hi=k:=by omega
   go_wp2;go_ret;exact⟨rfl,B.out⟩
theorem Cg {W W1:aJ} {v:bK} {l:List iH} {ao:Option bV} {n c k:Nat} {x:iH} (h:kM W v l) (hv:v=aj ao n c) (hn:l.length=n) (hk:l[k]?=ak x) (hb:Below W.heap.size W W1) :
  ∃ p:bV,(∀ w,(Instr.indexAt 30 (aj ao n c) (O Q k)).run au w=.ok (aH (ak p)) w) /\
   (∀ d os,(grow (aX W1 d) os).cell? p=ak (O Q x.1))/\(∀ d os,(grow (aX W1 d) os).cell? ⟨p.block,p.off+1,aB⟩=ak (O Q x.2.1)) /\
   (∀ d os,(grow (aX W1 d) os).cell? ⟨p.block,p.off+2,aB⟩=ak (O Q x.2.2.1))/\(∀ d os,(grow (aX W1 d) os).cell? ⟨p.block,p.off+3,aB⟩=ak (O Q x.2.2.2.1)) /\
   (∀ d os,(grow (aX W1 d) os).cell? ⟨p.block,p.off+4,aB⟩=ak (dU x.2.2.2.2.1))/\(∀ d os,(grow (aX W1 d) os).cell? ⟨p.block,p.off+5,aB⟩=ak (O Q x.2.2.2.2.2.1)) /\
   (∀ d os,(grow (aX W1 d) os).cell? ⟨p.block,p.off+6,aB⟩=ak (aF x.2.2.2.2.2.2)):=by
 obtain⟨p,h1,h2⟩:=Pv h hv hn hk;obtain⟨c0,c1,c2,c3,c4,c5,c6⟩:=h2 _ hb;exact⟨p,h1,U c0,U c1,U c2,U c3,U c4,U c5,U c6⟩
theorem Zp (args:Array bK) (w:aJ):(callFunc 81 args).run au w=.ok (.enter 81 args) w:=fT bW rfl rfl args w
theorem Zq (args:Array bK) (w:aJ):(callFunc 79 args).run au w=.ok (.enter 79 args) w:=fT bY rfl rfl args w
theorem Zr (i:Nat) (b1 b2 b3:Nat) (ao:Option bV) (n ac:Nat) (l:List iH) (t s:eT) (y:iH) (r:Bool) (w:aJ) (hv:kM w (aj ao n ac) l) (hn:l.length=n) (hy:l[i]?=ak y) (hr:(!jC (jc y) (t,s))=r)
  (h1:dN w b1 #[aj ao n ac] 30) (h2:dN w b2 #[O Q t.1,O Q t.2] 38) (h3:dN w b3 #[O Q s.1,O Q s.2] 38) :
  aY au 81 #[O Q i,aH (ak ⟨b1,0,aB⟩),aH (ak ⟨b2,0,aB⟩),aH (ak ⟨b3,0,aB⟩)] w fun e w'=>e=ay (aF r)/\Below w.heap.size w w':=by
 obtain⟨p,ix,p0,p1,p2,p3,p4,p5,p6⟩:=Cg hv rfl hn hy (aW _ _);have a0:=U (h1.cell 0);have b0:=U (h2.cell 0);have b1':=U (h2.cell 1);have c0:=U (h3.cell 0);have c1:=U (h3.cell 1);obtain⟨q,hq⟩:∃ q,jC (jc y) (t,s)=q:=⟨_,rfl⟩;have C:∀ k os,aY au 82 #[qg y,mY t,mY s] (grow (aX w k) os) fun e w''=>e=ay (aF q)/\∃ p:Regrown,w''=grow (aX w p.d) p.os:=fun k os=>Calls.regrown_of (Rh y t s q hq _);rw [hq] at hr;have R:=D hr;have BN:=D (fun dq osq=>bI w dq osq);obtain⟨y1,y2,y3,y4,⟨yo,yn,yc⟩,y6,y7⟩:=y;obtain⟨c,d⟩:=t;obtain⟨g,h⟩:=s;simp only at p0 p1 p2 p3 p4 p5 p6 b0 b1' c0 c1 C;clear hv hn hy hr hq h1 h2 h3;go_enter bW,Tryz.ntmps81;go_wp2;refine wp_region_quiet_below (by kernel_rfl) (by kernel_rfl) ?_
 repeat (go_big_quiet_step (first | (with_reducible exact C _ _) | exact ad4 _ _))
 refine wpQuiet_nil ?_;intro _ hw';obtain⟨⟨dq,osq⟩,hw''⟩:=hw';subst hw'';go_wp2;go_ret;exact⟨congrArg (fun b=>ay (aF b)) R.out,BN.out _ _⟩
theorem Zt (i:Nat) (b1 b2:Nat) (ao:Option bV) (n ac:Nat) (l:List iH) (t:eT) (y:iH) (r:Bool) (w:aJ) (hv:kM w (aj ao n ac) l) (hn:l.length=n) (hy:l[i]?=ak y) (hr:(!eO (y.1,y.2.1) t)=r)
  (h1:dN w b1 #[aj ao n ac] 30) (h2:dN w b2 #[O Q t.1,O Q t.2] 38) :
  aY au 79 #[O Q i,aH (ak ⟨b1,0,aB⟩),aH (ak ⟨b2,0,aB⟩)] w fun e w'=>e=ay (aF r)/\Below w.heap.size w w':=by
 obtain⟨p,ix,p0,p1,p2,p3,p4,p5,p6⟩:=Cg hv rfl hn hy (aW _ _);have a0:=U (h1.cell 0);have b0:=U (h2.cell 0);have b1':=U (h2.cell 1);have C:∀ k os,aY au 80 #[mY (y.1,y.2.1),mY t] (grow (aX w k) os) fun e w''=>e=ay (aF (eO (y.1,y.2.1) t))/\∃ p:Regrown,w''=grow (aX w p.d) p.os:=fun k os=>Calls.regrown_of (yC (y.1,y.2.1) t _);generalize eO (y.1,y.2.1) t=q at *;have R:=D hr;have BN:=D (fun dq osq=>bI w dq osq);obtain⟨y1,y2,y3,y4,⟨yo,yn,yc⟩,y6,y7⟩:=y;obtain⟨c,d⟩:=t;simp only at p0 p1 p2 p3 p4 p5 p6 b0 b1' C;clear hv hn hy hr h1 h2 p2 p3 p4 p5 p6;go_enter bY,Tryz.ntmps79;go_wp2;refine wp_region_quiet_below (by kernel_rfl) (by kernel_rfl) ?_
 repeat (go_big_quiet_step (first | (with_reducible exact C _ _) | exact aeD _ _))
 refine wpQuiet_nil ?_;intro _ hw';obtain⟨⟨dq,osq⟩,hw''⟩:=hw';subst hw'';go_wp2;go_ret;exact⟨congrArg (fun b=>ay (aF b)) R.out,BN.out _ _⟩
theorem ou {α:Type} {E:Ek α} {W:aJ} {so:Option bV} {sn sc:Nat} {l:List α} (h:Row E W (aj so sn sc) l):l.length=sn:=by
 obtain⟨ao,ac,hv⟩:=h.len;simp at hv;exact hv.2.1.symm
theorem lJ {W:aJ} {l:List iH} {m:List En} (h:eH (jd W) l m) {i:Nat} {y:iH} (hy:l[i]?=ak y):∃ e,m[i]?=ak e/\jc y=eD e/\jd W y e:=by
 have hlt:=(ah.1 hy).1;obtain⟨e,he⟩:∃ e,m[i]?=ak e:=⟨_,J (by rw [<- h.len]; exact hlt)⟩;obtain⟨y',hy',hx⟩:=h.at i e he;rw [hy] at hy';obtain rfl:=aL hy';exact⟨e,he,Prod.ext hx.1 hx.2.1,hx⟩
theorem yP {m:List En} (hr:iB m) {i j:Nat} {x y:En} (hij:i<j) (hx:m[i]?=ak x) (hy:m[j]?=ak y):wY x y<0:=by
 obtain⟨h1,rfl⟩:=ah.1 hx;obtain⟨h2,rfl⟩:=ah.1 hy;exact List.pairwise_iff_getElem.1 hr i j h1 h2 hij
theorem mK (l:List (eT×eT)) (x:eT×eT):eu l x<=l.length:=(aQ _).length_le
theorem uj {m:List En} (hr:iB m) (x:eT×eT) {i:Nat} {e:En} (hi:eu (m.map eD) x<=i) (he:m[i]?=ak e):jC (eD e) x=aN:=by
 have hlt:=(ah.1 he).1;obtain⟨z,hz⟩:∃ z,m[eu (m.map eD) x]?=ak z:=⟨_,J (by omega)⟩;have h0:=yL (m.map eD) x (eD z) (by rw [bN,hz]; rfl);rcases aZ (eu (m.map eD) x) i with h|h
 ·have h1:=yP hr h hz he;cases hq:jC (eD e) x with
  | false=>rfl
  | true =>
   rw [<- kV] at h1;have h2:wY z ⟨x.1,x.2,[],0,aN⟩<0:=AO z e ⟨x.1,x.2,[],0,aN⟩ ((kV z e).1 h1) ((kV e ⟨x.1,x.2,[],0,aN⟩).1 hq);rw [<- kV] at h2;rw [show jC (eD z) x=aP from h2] at h0;cases h0
 ·have e1:i=eu (m.map eD) x:=by omega
  rw [e1,hz] at he;rw [<- aL he];exact h0
theorem yQ (v:Sl) (l:List iH) (m:List En) (t s:eT) (w:aJ) (hv:kM w (dU v) l) (hA:eH (jd w) l m) (hr:iB m) (hl:l.length<=1000) :
  aY au 48 #[dU v,mY t,mY s] w fun e w'=>e=ay (.tuple #[O Q (eu (m.map eD) (t,s)),aF (jo m t s)])/\Below w.heap.size w w':=by
 obtain⟨so,n,sc⟩:=v;have hn:l.length=n:=ou hv;obtain⟨c,d⟩:=t;obtain⟨g,h⟩:=s;obtain⟨k,hk⟩:∃ k,eu (m.map eD) ((c,d),(g,h))=k:=⟨_,rfl⟩;obtain⟨th,hth⟩:∃ k,jo m (c,d) (g,h)=k:=⟨_,rfl⟩;have hkn:k<=n:=by rw [<- hk,<- hn,hA.len]; simpa using mK (m.map eD) ((c,d),(g,h))
 rw [hk,hth];obtain⟨h0,X,Y,Z⟩:=gX w #[aj so n sc] #[O Q c,O Q d] #[O Q g,O Q h] 30 38 38;have BB:=D h0;have HV:=D (hv.on h0);have HA:=D (hA.mono fun _ _ q=>q.on h0);have X1:=D X;have Y1:=D Y;have Z1:=D Z;have x0:=X.cell 0;simp only [aD,aA] at x0;have HF:=D (show ∀ i,i<n->∀ W,Below (((w.alloc (aG #[aj so n sc] 30)).alloc (aG #[O Q c,O Q d] 38)).alloc (aG #[O Q g,O Q h] 38)).heap.size (((w.alloc (aG #[aj so n sc] 30)).alloc (aG #[O Q c,O Q d] 38)).alloc (aG #[O Q g,O Q h] 38)) W ->
   aY au 81 (#[O Q i]++#[aH (ak ⟨w.heap.size,0,aB⟩),aH (ak ⟨w.heap.size+1,0,aB⟩),aH (ak ⟨w.heap.size+1+1,0,aB⟩)]) W fun e w'=>e=ay (aF ((fun i=>match l[i]? with | some y=>!jC (jc y) ((c,d),(g,h)) | none=>aP) i))/\Below W.heap.size W w' from fun i hi W hb=>by
  obtain⟨y,hy⟩:∃ y,l[i]?=ak y:=⟨_,J (by omega)⟩;refine Zr i _ _ _ so n sc l (c,d) (g,h) y _ W (HV.out.on hb) hn hy ?_ (X1.out.on hb) (Y1.out.on hb) (Z1.out.on hb);simp only [hy])
 have HLO:=D (show ∀ i,i<k->(fun i=>match l[i]? with | some y=>!jC (jc y) ((c,d),(g,h)) | none=>aP) i=aN from fun i hi=>by
  obtain⟨y,hy⟩:∃ y,l[i]?=ak y:=⟨_,J (by omega)⟩;obtain⟨e,he,hke,_⟩:=lJ HA.out hy;have h1:=o8 (m.map eD) ((c,d),(g,h)) i (eD e) (by rw [hk]; exact hi) (by rw [bN,he]; rfl);simp only [hy,hke,h1]
  rfl)
 have HHI:=D (show ∀ i,k<=i->i<n->(fun i=>match l[i]? with | some y=>!jC (jc y) ((c,d),(g,h)) | none=>aP) i=aP from fun i hi hi2=>by
  obtain⟨y,hy⟩:∃ y,l[i]?=ak y:=⟨_,J (by omega)⟩;obtain⟨e,he,hke,_⟩:=lJ HA.out hy;have h1:=Sb.uj hr ((c,d),(g,h)) (by rw [hk]; exact hi) he;simp only [hy,hke,h1]
  rfl)
 have HK:=D hk;have HT:=D hth;have HN:=D hn;have ln:n<=1000:=by omega
 clear hv hA h0 X Y Z hk hth hl hn hr;go_enter Tryz.func48,Tryz.ntmps48;go_wp2_with fail;generalize ((w.alloc (aG #[aj so n sc] 30)).alloc (aG #[O Q c,O Q d] 38)).alloc (aG #[O Q g,O Q h] 38)=W at *;refine (Ce 81 #[aH (ak ⟨w.heap.size,0,aB⟩),aH (ak ⟨w.heap.size+1,0,aB⟩),aH (ak ⟨w.heap.size+1+1,0,aB⟩)] Zp n k _ W (by omega) HF.out hkn HLO.out HHI.out).mono ?_;rintro e1 w1 ⟨rfl,hb⟩;have BN:=D (fun dq osq=>(BB.out.trans (hb.mono BB.out.size)).trans ((bI w1 dq osq).mono (BB.out.trans (hb.mono BB.out.size)).size));have a0:=U (show w1.cell? ⟨w.heap.size,0,aB⟩=ak (aj so n sc) from (X1.out.on hb).cell 0);have b0:=U (show w1.cell? ⟨w.heap.size+1,0,aB⟩=ak (O Q c) from (Y1.out.on hb).cell 0);have b1:=U (show w1.cell? ⟨w.heap.size+1,1,aB⟩=ak (O Q d) from (Y1.out.on hb).cell 1);have c0:=U (show w1.cell? ⟨w.heap.size+1+1,0,aB⟩=ak (O Q g) from (Z1.out.on hb).cell 0);have c1:=U (show w1.cell? ⟨w.heap.size+1+1,1,aB⟩=ak (O Q h) from (Z1.out.on hb).cell 1);clear x0 HF HLO HHI;by_cases hkl:k<n
 ·obtain⟨y,hy⟩:∃ y,l[k]?=ak y:=⟨_,J (by rw [HN.out]; exact hkl)⟩;obtain⟨p,ix,p0,p1,p2,p3,p4,p5,p6⟩:=Cg HV.out rfl HN.out hy hb;have TH:=D (show th=decide (jc y=((c,d),(g,h))) from by
   obtain⟨e,he,hke,_⟩:=lJ HA.out hy;rw [<- HT.out,jo,HK.out,he,hke])
  have g4:decide ((k:Int)<(n:Int))=aP:=by simp; omega
  obtain⟨y1,y2,y3,y4,⟨yo,yn,yc⟩,y6,y7⟩:=y;simp only at p0 p1 p2 p3;clear p4 p5 p6 hb hy;obtain⟨r1,hr1⟩:∃ r,(y1 == c && y2 == d)=r:=⟨_,rfl⟩;obtain⟨r2,hr2⟩:∃ r,(y3 == g && y4 == h)=r:=⟨_,rfl⟩;have e1:=wC y1 y2 c d r1 hr1;have e2:=wC y3 y4 g h r2 hr2;have R:=D (show th=(r1 && r2) from by
   rw [TH.out,<- hr1,<- hr2,Bool.eq_iff_iff];simp only [decide_eq_true_eq,Bool.and_eq_true,beq_iff_eq,Prod.mk.injEq])
  clear hr1 hr2 TH HT;cases r1 <;> cases r2
  all_goals
   go_wp2;refine wp_region_quiet_below (by kernel_rfl) (by kernel_rfl) ?_
   repeat (go_big_quiet_step (fail))
   refine wpQuiet_nil ?_;intro _ hw';obtain⟨⟨dq,osq⟩,hw''⟩:=hw';subst hw'';go_wp2
   go_ret2
   exact⟨by rw [R.out]; rfl,BN.out _ _⟩
 ·have TH:=D (show th=aN from by
   rw [<- HT.out,jo,HK.out,List.getElem?_eq_none (by rw [<- HA.out.len,HN.out]; omega)])
  have g4:decide ((k:Int)<(n:Int))=aN:=by simp; omega
  clear hb HT;go_wp2;refine wp_region_quiet_below (by kernel_rfl) (by kernel_rfl) ?_
  repeat (go_big_quiet_step (fail))
  refine wpQuiet_nil ?_;intro _ hw';obtain⟨⟨dq,osq⟩,hw''⟩:=hw';subst hw'';go_wp2
  go_ret2
  exact⟨by rw [TH.out]; rfl,BN.out _ _⟩
def cutV (v:Sl) (f k:Nat):Sl:=match v with
 | (ak a,_,c)=>(ak (if c=f then a else a.add (f * 7)),k,c-f)
 | (aB,_,_)=>(aB,0,0)
theorem Wy {α:Type} (p:α->Bool):∀ (l:List α) (j:Nat) (y:α),j<(l.takeWhile p).length->l[j]?=ak y->p y=aP
 | [],_,_,_,h=>by simp at h
 | a::l,j,y,hj,h=>by
  by_cases ha:p a=aP
  ·rw [aV,if_pos ha,bO] at hj;cases j with
   | zero=>rw [<- aL (show ak a=ak y from h)]; exact ha
   | succ j=>exact Wy p l j y (by omega) (by simpa using h)
  ·rw [aV,if_neg ha] at hj;simp at hj
theorem Wz {α:Type} (p:α->Bool):∀ (l:List α) (y:α),l[(l.takeWhile p).length]?=ak y->p y=aN
 | [],_,h=>by simp at h
 | a::l,y,h=>by
  by_cases ha:p a=aP
  ·rw [aV,if_pos ha,bO] at h;exact Wz p l y (by simpa using h)
  ·rw [aV,if_neg ha] at h;rw [<- aL (show ak a=ak y from h)];simpa using ha
theorem Ri (a:bV) (f e len cap:Nat) (h:f<=e) (h6:e<=cap) (w:aJ):(Instr.sliceAt 30 (aj (ak a) len cap) (ak (O Q f)) (ak (O Q e)) aB).run au w=.ok (dU (cutV (ak a,len,cap) f (e-f))) w:=by
 have h1:(f:Int)<=(e:Int):=by omega
 have h3:(e:Int)<=cap:=by omega
 obtain⟨i,i1,i2,i3,i4⟩:=lF.info;have i1':Tryz.prog.info? 68=ak i:=i1;have hu':Tryz.prog.underlying 30=ak (.slice 68):=lF.hu;have Yl:i.size=7:=i3;by_cases he:cap=f
 ·subst he;obtain rfl:e=cap:=by omega
  simp [go_sem,hu',sizeOf,typeInfo,i1',Yl,cutV]
 ·simp [go_sem,hu',sizeOf,typeInfo,i1',Yl,cutV,he,h,h6]
theorem Gv {W:aJ} {v:Sl} {l:List iH} (h:kM W (dU v) l) (f k:Nat) (hk:f+k<=l.length) :
  (∀ w,(Instr.sliceAt 30 (dU v) (ak (O Q f)) (ak (O Q ((f+k:Nat):Int))) aB).run au w=.ok (dU (cutV v f k)) w)/\kM W (dU (cutV v f k)) ((l.drop f).take k):=by
 obtain⟨so,sn,sc⟩:=v;rcases h with⟨rfl,hv⟩|⟨a,cap,hv,h2,h3,h4⟩
 ·obtain⟨rfl,rfl,rfl⟩:so=aB/\sn=0/\sc=0:=by simpa using hv
  obtain⟨rfl,rfl⟩:f=0/\k=0:=by simp at hk; omega
  refine⟨fun w=>?_,Or.inl ⟨rfl,rfl⟩⟩;obtain⟨i,i1,i2,i3,i4⟩:=lF.info;have i1':Tryz.prog.info? 68=ak i:=i1;have hu':Tryz.prog.underlying 30=ak (.slice 68):=lF.hu;simp [go_sem,hu',sizeOf,typeInfo,i1',cutV]
 ·obtain⟨rfl,rfl,rfl⟩:so=ak a/\sn=l.length/\sc=cap:=by simpa using hv
  refine⟨fun w=>by have h:=Ri a f (f+k) l.length sc (Nat.le_add_right _ _) (bf hk h2) w; rwa [aO] at h,?_⟩;refine Or.inr ⟨(if sc=f then a else a.add (f * 7)),sc-f,?_,?_,by omega,fun j u hj=>?_⟩
  ·have e:((l.drop f).take k).length=k:=by rw [aK,aT]; omega
   rw [e]
   rfl
  ·rw [aK,aT]; omega
  ·have hlt:=(ah.1 hj).1;have hlen:(flat EN ((l.drop f).take k)).length=k * 7:=by
    rw [eF lF,aK,aT];show _ * 7=_;rw [show min k (l.length-f)=k by omega]
   rw [hlen] at hlt;rw [if_neg (by omega),add_add];refine h4 _ u ?_;have e1:flat EN l=flat EN (l.take f)++(flat EN ((l.drop f).take k)++flat EN ((l.drop f).drop k)):=by
    rw [<- gI,aR,<- gI,aR]
   have e2:(flat EN (l.take f)).length=f * 7:=by
    rw [eF lF,aK];show _ * 7=_;rw [show min f l.length=f by omega]
   rw [e1,aS (by rw [e2]; omega),e2,show f * 7+j-f * 7=j by omega,aU (by rw [hlen]; exact hlt)];exact hj
theorem uT (m:List En) (t:eT):iK m t+(mZ m t).length<=m.length:=by
 have h1:(mZ m t).length<=(m.drop (iK m t)).length:=(aQ _).length_le;have h2:iK m t<=m.length:=(aQ _).length_le;rw [aT] at h1;omega
theorem wh (v:Sl) (l:List iH) (m:List En) (t:eT) (w:aJ) (hv:kM w (dU v) l) (hA:eH (jd w) l m) (hr:iB m) (hl:l.length<=1000) :
  aY au 46 #[dU v,mY t] w fun e w'=>e=ay (dU (cutV v (iK m t) (mZ m t).length))/\Below w.heap.size w w':=by
 have hfk:=uT m t;have hML:l.length=m.length:=hA.len;obtain⟨f,hf⟩:∃ f,iK m t=f:=⟨_,rfl⟩;obtain⟨k,hk⟩:∃ k,(mZ m t).length=k:=⟨_,rfl⟩;rw [hf,hk] at hfk ⊢;have RC:=D ((Gv hv f k (by omega)).1);obtain⟨so,n,sc⟩:=v;generalize cutV (so,n,sc) f k=z at RC ⊢;obtain⟨z1,z2,z3⟩:=z;have hn:l.length=n:=ou hv;obtain⟨c,d⟩:=t;obtain⟨h0,X,Y⟩:=iE w #[aj so n sc] #[O Q c,O Q d] 30 38;have BB:=D h0;have HV:=D (hv.on h0);have HA:=D (hA.mono fun _ _ q=>q.on h0);have X1:=D X;have Y1:=D Y;have x0:=X.cell 0;simp only [aD,aA] at x0;have FL:∀ (i:Nat) (e:En),i<f->m[i]?=ak e->eO e.tree (c,d)=aP:=fun i e hi he=>Wy (fun e:En=>eO e.tree (c,d)) m i e (by unfold iK at hf; omega) he;have FH:∀ (i:Nat) (e:En),f<=i->m[i]?=ak e->eO e.tree (c,d)=aN:=fun i e hi he=>by
  refine Lv (c,d) hr e ?_;rw [<- AU];unfold iK at hf;rw [hf];exact aC (show (m.drop f)[i-f]?=ak e by rw [bg,show f+(i-f)=i by omega]; exact he)
 have BL:=D (show ∀ (i:Nat) (e:En),i<k->m[f+i]?=ak e->e.tree=(c,d) from fun i e hi he=>by
  have:=Wy (fun e:En=>decide (e.tree=(c,d))) (m.drop f) i e (by unfold mZ at hk; rw [hf] at hk; omega) (by rw [bg]; exact he);exact of_decide_eq_true this)
 have BH:=D (show ∀ (e:En),m[f+k]?=ak e->e.tree≠(c,d) from fun e he=>by
  have:=Wz (fun e:En=>decide (e.tree=(c,d))) (m.drop f) e (by unfold mZ at hk; rw [hf] at hk; rw [hk,bg]; exact he);exact of_decide_eq_false this)
 have HF:=D (show ∀ i,i<n->∀ W,Below ((w.alloc (aG #[aj so n sc] 30)).alloc (aG #[O Q c,O Q d] 38)).heap.size ((w.alloc (aG #[aj so n sc] 30)).alloc (aG #[O Q c,O Q d] 38)) W ->
   aY au 79 (#[O Q i]++#[aH (ak ⟨w.heap.size,0,aB⟩),aH (ak ⟨w.heap.size+1,0,aB⟩)]) W fun e w'=>e=ay (aF ((fun i=>match l[i]? with | some y=>!eO (y.1,y.2.1) (c,d) | none=>aP) i))/\Below W.heap.size W w' from fun i hi W hb=>by
  obtain⟨y,hy⟩:∃ y,l[i]?=ak y:=⟨_,J (by omega)⟩;refine Zt i _ _ so n sc l (c,d) y _ W (HV.out.on hb) hn hy ?_ (X1.out.on hb) (Y1.out.on hb);simp only [hy])
 have HLO:=D (show ∀ i,i<f->(fun i=>match l[i]? with | some y=>!eO (y.1,y.2.1) (c,d) | none=>aP) i=aN from fun i hi=>by
  obtain⟨y,hy⟩:∃ y,l[i]?=ak y:=⟨_,J (by omega)⟩;obtain⟨e,he,hke,hx⟩:=lJ HA.out hy;have h1:=FL i e hi he;rw [<- hx.1] at h1;simp only [hy,h1]
  rfl)
 have HHI:=D (show ∀ i,f<=i->i<n->(fun i=>match l[i]? with | some y=>!eO (y.1,y.2.1) (c,d) | none=>aP) i=aP from fun i hi hi2=>by
  obtain⟨y,hy⟩:∃ y,l[i]?=ak y:=⟨_,J (by omega)⟩;obtain⟨e,he,hke,hx⟩:=lJ HA.out hy;have h1:=FH i e hi he;rw [<- hx.1] at h1;simp only [hy,h1]
  rfl)
 have HN:=D hn;have ln:n<=1000:=by omega
 have aml:f+k<=n:=by omega
 clear hv hA h0 X Y hk hf hl hn hr hfk hML FL FH;go_enter Tryz.func46,Tryz.ntmps46;go_wp2_with fail;generalize (w.alloc (aG #[aj so n sc] 30)).alloc (aG #[O Q c,O Q d] 38)=W at *;refine (Ce 79 #[aH (ak ⟨w.heap.size,0,aB⟩),aH (ak ⟨w.heap.size+1,0,aB⟩)] Zq n f _ W (by omega) HF.out (by omega) HLO.out HHI.out).mono ?_;rintro e1 w1 ⟨rfl,hb⟩;have B1:=D hb;clear x0 HF HLO HHI hb;go_wp2
 go_loopw [6] (fun i wr=>∃ j:Nat,j<=k/\i=O Q ((f+j:Nat):Int)/\Below W.heap.size W wr) (fun i _=>f+k-(intOf i).toNat)
 case atStart=>exact⟨0,bH _,by simp,B1.out⟩
 case round =>
  obtain⟨j,hj,rfl,hbe⟩:=hrel;have BE:=D hbe;have a0:=U (show wr.cell? ⟨w.heap.size,0,aB⟩=ak (aj so n sc) from (X1.out.on hbe).cell 0);have b0:=U (show wr.cell? ⟨w.heap.size+1,0,aB⟩=ak (O Q c) from (Y1.out.on hbe).cell 0);have b1:=U (show wr.cell? ⟨w.heap.size+1,1,aB⟩=ak (O Q d) from (Y1.out.on hbe).cell 1);have BN:=D (fun dq osq=>BE.out.trans ((bI wr dq osq).mono BE.out.size));clear hbe;by_cases hjk:j<k
  ·obtain⟨y,hy⟩:∃ y,l[f+j]?=ak y:=⟨_,J (by rw [HN.out]; omega)⟩;obtain⟨p,ix,p0,p1,p2,p3,p4,p5,p6⟩:=Cg HV.out rfl HN.out hy BE.out;obtain⟨e,he,_,hx⟩:=lJ HA.out hy;have ht:(y.1,y.2.1)=(c,d):=hx.1.trans (BL.out j e hjk he);have hjn:f+j<n:=by omega
   have g4:decide (((f+j:Nat):Int)<(n:Int))=aP:=by simp; omega
   have hw3:IntKind.i64.wrap (((f+j:Nat):Int)+1)=((f+(j+1):Nat):Int):=by rw [bA _ (by omega)]; omega
   obtain⟨y1,y2,y3,y4,⟨yo,yn,yc⟩,y6,y7⟩:=y;obtain⟨rfl,rfl⟩:y1=c/\y2=d:=by simpa using ht
   simp only at p0 p1;have e1:=wC y1 y2 y1 y2 aP (by simp);clear p2 p3 p4 p5 p6 hy he hx ht;generalize hq:f+j=q at *;have HQ:=D hq;clear hq;go_wp2;refine wp_region_quiet_below (by kernel_rfl) (by kernel_rfl) ?_
   repeat (go_big_quiet_step (fail))
   refine wpQuiet_nil ?_;intro _ hw';obtain⟨⟨dq,osq⟩,hw''⟩:=hw';subst hw'';go_wp2
   go_roundw
   case rel=>exact⟨j+1,by omega,by rfl,BN.out _ _⟩
   case measure =>
    have hq:=HQ.out;simp [intOf];omega
  ·obtain rfl:j=k:=by omega
   have RC2:=RC.out;by_cases hjn:f+j<n
   ·obtain⟨y,hy⟩:∃ y,l[f+j]?=ak y:=⟨_,J (by rw [HN.out]; omega)⟩;obtain⟨p,ix,p0,p1,p2,p3,p4,p5,p6⟩:=Cg HV.out rfl HN.out hy BE.out;obtain⟨e,he,_,hx⟩:=lJ HA.out hy;have ht:(y.1,y.2.1)≠(c,d):=fun q=>BH.out e he (hx.1.symm.trans q);have g4:decide (((f+j:Nat):Int)<(n:Int))=aP:=by simp; omega
    obtain⟨y1,y2,y3,y4,⟨yo,yn,yc⟩,y6,y7⟩:=y;simp only at p0 p1;have e1:=wC y1 y2 c d aN (bF.2 fun h=>ht (by simp at h; rw [h.1,h.2]));clear p2 p3 p4 p5 p6 hy he hx ht;generalize f+j=q at *;go_wp2;refine wp_region_quiet_below (by kernel_rfl) (by kernel_rfl) ?_
    repeat (go_big_quiet_step (fail))
    refine wpQuiet_nil ?_;intro _ hw';obtain⟨⟨dq,osq⟩,hw''⟩:=hw';subst hw'';have a0:=a0 dq osq;go_wp2;go_ret;exact⟨rfl,BB.out.trans ((BN.out _ _).mono BB.out.size)⟩
   ·have g4:decide (((f+j:Nat):Int)<(n:Int))=aN:=by simp; omega
    generalize f+j=q at *;go_wp2;refine wp_region_quiet_below (by kernel_rfl) (by kernel_rfl) ?_
    repeat (go_big_quiet_step (fail))
    refine wpQuiet_nil ?_;intro _ hw';obtain⟨⟨dq,osq⟩,hw''⟩:=hw';subst hw'';have a0:=a0 dq osq;go_wp2;go_ret;exact⟨rfl,BB.out.trans ((BN.out _ _).mono BB.out.size)⟩
end Sb
namespace Sb
open Go.RowKit Go.Sort Rw YtkcfgbddlpomgaaGreat.Nm Pr Bk Av Rl
theorem WE (Dq bv:bK) (p q:List C5) (w:aJ) (ha:gu w Dq p) (hb:gu w bv q) (hp:dW p) (hq:dW q) :
  aY au 107 #[Dq,bv] w fun e w'=>e=ay (aF (nM p q))/\Below w.heap.size w w':=by
 obtain⟨a,na,rfl⟩:=hp;obtain⟨b,nb,rfl⟩:=hq;unfold nM;rw [qy,qy];exact Lu Dq bv a b w ha hb na nb
theorem ad6 {α:Type} (f:α->Bool) {l:List α} (h:∀ (j:Nat) (y:α),j<l.length->l[j]?=ak y->f y=aN):l.any f=aN:=by
 rw [List.any_eq_false];intro e he;obtain⟨j,hj,hje⟩:=List.getElem_of_mem he;simpa using h j e hj (by rw [J hj,hje])
theorem ad7 {α:Type} (f:α->Bool) {l:List α} {k:Nat} {y:α} (h:l[k]?=ak y) (hf:f y=aP):l.any f=aP:=by
 rw [List.any_eq_true];exact⟨y,aC h,hf⟩
abbrev cE (p:List C5) (e:En):Bool:=e.up && nM e.p p
theorem zh (v:Sl) (pv:bK) (l:List iH) (m:List En) (p':List C5) (w:aJ) (hs:kM w (dU v) l) (hu:eH (jd w) l m) (hp:gu w pv p') (hok:∀ e∈m,dW e.p) (hop:dW p') :
  aY au 83 #[dU v,pv] w fun e w'=>e=ay (aF (C8 m p'))/\Below w.heap.size w w':=by
 have HU:=D hu;have HP:=D hp;have OK:=D hok;have OP:=D hop;obtain⟨pa,pc,rfl⟩:=hp.len;generalize p'.length=pn at *;obtain⟨so,n,sc⟩:=v;have hn:=ou hs;have HS:=D hs;have lm:=hs.most;unfold maxLen at lm;rw [hn] at lm;have HN:=D hn;clear hu hp hok hop hs hn;go_enter Tryz.func83,Tryz.ntmps83;go_wp2
 go_loopw [9] (fun i wr=>∃ k:Nat,k<=n/\i=O Q k/\Below w.heap.size w wr/\∀ (j:Nat) (y:En),j<k->m[j]?=ak y->cE p' y=aN) (fun i _=>n-(intOf i).toNat)
 case atStart=>exact⟨0,bH _,rfl,aW _ _,fun j y h=>by omega⟩
 case round =>
  obtain⟨k,hk,rfl,hbe,hall⟩:=hrel;have BE:=D hbe;have AL:=D hall;clear hbe hall;by_cases hlt:k<n
  ·obtain⟨y,hy⟩:∃ y,l[k]?=ak y:=⟨_,J (by rw [HN.out]; exact hlt)⟩;obtain⟨q,ix,px⟩:=Pv HS.out rfl HN.out hy;obtain⟨p0,p1,p2,p3,p4,p5,p6⟩:=px wr BE.out;obtain⟨e,he,_,hin⟩:=lJ HU.out hy;obtain⟨y1,y2,y3,y4,⟨yo,yn,yc⟩,y6,y7⟩:=y;simp only at p0 p1 p2 p3 p4 p5 p6;have NB:=D (fI wr (aG #[O Q y1,O Q y2,O Q y3,O Q y4,aj yo yn yc,O Q y6,aF y7] 68));have hw3:IntKind.i64.wrap ((k:Int)+1)=(k:Int)+1:=bA _ (by omega);obtain⟨t,ht⟩:∃ r,nM e.p p'=r:=⟨_,rfl⟩;have HV:=D (show cE p' e=(y7 && t) by unfold cE; rw [<- hin.2.2.2.1,ht]);have HE:=D he;have BF:=D (BE.out.trans (NB.out.mono BE.out.size));have CV:=D (WE (aj yo yn yc) (aj pa pn pc) e.p p' _ (hin.2.2.2.2.on BF.out) (HP.out.on BF.out) (OK.out _ (aC he)) OP.out);rw [ht] at CV;clear px hy ht he hin;cases y7
   ·clear CV;go_wp2
    go_roundw
    case rel=>exact⟨k+1,by omega,by go_num,BF.out,fun j y' hj h1=>by
     rcases aZ j k with h3|h3
     ·exact AL.out j y' h3 h1
     ·obtain rfl:j=k:=by omega
      have e1:=HE.out;rw [h1] at e1;rw [aL e1];exact HV.out.trans (by simp)⟩
    case measure=>simp [intOf]; omega
   ·go_wp2_with fail;refine CV.out.mono ?_;rintro e3 w3 ⟨rfl,hb⟩;have BG:=D (BF.out.trans (hb.mono BF.out.size));clear CV hb p0 p1 p2 p3 p4 p5 p6 ix;cases t
    ·go_wp2
     go_roundw
     case rel=>exact⟨k+1,by omega,by go_num,BG.out,fun j y' hj h1=>by
      rcases aZ j k with h3|h3
      ·exact AL.out j y' h3 h1
      ·obtain rfl:j=k:=by omega
       have e1:=HE.out;rw [h1] at e1;rw [aL e1];exact HV.out.trans (by simp)⟩
     case measure=>simp [intOf]; omega
    ·have hd:C8 m p'=aP:=ad7 (cE p') HE.out (HV.out.trans (by simp));go_wp2;go_ret;exact⟨by rw [hd]; rfl,BG.out⟩
  ·obtain rfl:k=n:=by omega
   have hd:C8 m p'=aN:=ad6 (cE p') fun j y hj h=>AL.out j y (by rw [<- HN.out,HU.out.len]; exact hj) h;go_wp2;go_ret;exact⟨by rw [hd]; rfl,BE.out⟩
theorem WH {W:aJ} {v:Sl} {l:List iH} {m:List En} (hv:kM W (dU v) l) (hA:eH (jd W) l m) (t:eT):kM W (dU (cutV v (iK m t) (mZ m t).length)) ((l.drop (iK m t)).take (mZ m t).length)/\eH (jd W) ((l.drop (iK m t)).take (mZ m t).length) (mZ m t):=by
 refine⟨(Gv hv _ _ (by rw [hA.len]; exact uT m t)).2,?_⟩;have h:=(hA.drop (iK m t)).take (mZ m t).length;have e:(m.drop (iK m t)).take (mZ m t).length=mZ m t:=by
  unfold mZ
  conv=>lhs; arg 2; rw [<- List.takeWhile_append_dropWhile (p:=fun e:En=>decide (e.tree=t)) (l:=m.drop (iK m t))]
  rw [List.take_left]
 rw [e] at h;exact h
theorem WJ (m:List En) (t:eT):∀ e∈mZ m t,e∈m:=fun _ he=>List.mem_of_mem_drop ((aQ _).subset he)
theorem WK (me:Int) (nv av sv ov:bK) (ev:Sl) (l:List iH) (m:List En) (t:eT) (pv:bK) (p':List C5) (w:aJ) (hs:kM w (dU ev) l) (hu:eH (jd w) l m) (hr:iB m) (hl:l.length<=1000) (hp:gu w pv p') (hok:∀ e∈m,dW e.p) (hop:dW p') :
  aY au 49 #[bZ #[O Q me,nv,av,sv,dU ev,ov],mY t,pv] w fun e w'=>e=ay (aF (eY m t p'))/\Below w.heap.size w w':=by
 obtain⟨pa,pc,rfl⟩:=hp.len;obtain⟨so,n,sc⟩:=ev;obtain⟨c,d⟩:=t;obtain⟨h0,X,Y⟩:=iE w #[O Q me,nv,av,sv,aj so n sc,ov] #[O Q c,O Q d] 33 38;have B:=D h0;have x4:=X.cell 4;obtain⟨y0,y1⟩:=Y.cs2;simp only [aD,aA,aI] at x4;have BR:=D (wh (so,n,sc) l m (c,d) _ (hs.on h0) (hu.mono fun _ _ q=>q.on h0) hr hl);obtain⟨q1,q2⟩:=WH (hs.on h0) (hu.mono fun _ _ q=>q.on h0) (c,d);have Q1:=D q1;have Q2:=D q2;have HP:=D (hp.on h0);have OK:=D (fun e he=>hok e (WJ m (c,d) e he));have CB:=D (adI hr (c,d) p');generalize p'.length=pn at *;generalize eY m (c,d) p'=r at *;generalize cutV (so,n,sc) (iK m (c,d)) (mZ m (c,d)).length=z at *;obtain⟨z1,z2,z3⟩:=z;clear h0 X Y hs hu hr hl hp hok q1 q2;go_enter Tryz.func49,Tryz.ntmps49;go_wp2_with fail;generalize (w.alloc (aG #[O Q me,nv,av,sv,aj so n sc,ov] 33)).alloc (aG #[O Q c,O Q d] 38)=W at *;refine BR.out.mono ?_;rintro e1 w1 ⟨rfl,hb⟩;have HB:=D hb;have CV:=D (zh (z1,z2,z3) (aj pa pn pc) _ (mZ m (c,d)) p' w1 (Q1.out.on hb) (Q2.out.mono fun _ _ q=>q.on hb) (HP.out.on hb) OK.out hop);clear x4 y0 y1 hb BR;go_wp2_with fail;refine CV.out.mono ?_;rintro e2 w2 ⟨rfl,hb2⟩;go_wp2;go_ret;exact⟨by rw [<- CB.out]; rfl,B.out.trans ((HB.out.trans (hb2.mono HB.out.size)).mono B.out.size)⟩
def uD (m:List En) (t s:eT):Option En:=match m[eu (m.map eD) (t,s)]? with
 | none=>aB
 | some e=>if eD e=(t,s) then ak e else aB
def FiQ (w:aJ) (o:Option En) (e:Ending) (w':aJ):Prop:=(match o with
 | none=>e=ay (.tuple #[qg (0,0,0,0,(aB,0,0),0,aN),aF aN])
 | some a=>∃ r:iH,e=ay (.tuple #[qg r,aF aP])/\jd w' r a)/\Below w.heap.size w w'
theorem sj {m:List En} {t s:eT} (h:jo m t s=aP):∃ e,m[eu (m.map eD) (t,s)]?=ak e/\eD e=(t,s)/\uD m t s=ak e:=by
 unfold jo at h;cases hm:m[eu (m.map eD) (t,s)]? with
 | none=>rw [hm] at h; cases h
 | some e =>
  rw [hm] at h;have hk:=of_decide_eq_true h;exact⟨e,rfl,hk,by unfold uD; rw [hm]; simp only; rw [if_pos hk]⟩
theorem Ch {m:List En} {t s:eT} (h:jo m t s=aN):uD m t s=aB:=by
 unfold jo at h;unfold uD;cases hm:m[eu (m.map eD) (t,s)]? with
 | none=>rfl
 | some e =>
  rw [hm] at h;simp only;rw [if_neg (of_decide_eq_false h)]
theorem Rj (me:Int) (nv av sv ov:bK) (ev:Sl) (l:List iH) (m:List En) (t s:eT) (w:aJ) (hs:kM w (dU ev) l) (hu:eH (jd w) l m) (hr:iB m) (hl:l.length<=1000) (hf:∀ e∈m,e.p.length<=900) :
  aY au 24 #[bZ #[O Q me,nv,av,sv,dU ev,ov],mY t,mY s] w (FiQ w (uD m t s)):=by
 obtain⟨so,n,sc⟩:=ev;obtain⟨c,d⟩:=t;obtain⟨g,h⟩:=s;obtain⟨h0,X,Y,Z,V⟩:=wO w #[O Q me,nv,av,sv,aj so n sc,ov] #[O Q c,O Q d] #[O Q g,O Q h] #[O Q 0,O Q 0,O Q 0,O Q 0,aj aB 0 0,O Q 0,aF aN] 33 38 38 68;have B:=D h0;have x4:=X.cell 4;obtain⟨y0,y1⟩:=Y.cs2;obtain⟨z0,z1⟩:=Z.cs2;simp only [aD,aA,aI] at x4;have HS:=D (hs.on h0);have HU:=D (hu.mono fun _ _ q=>q.on h0);have PL:=D (yQ (so,n,sc) l m (c,d) (g,h) _ HS.out HU.out hr hl);have X1:=D X;have V1:=D V;have HF:=D hf;have hn:=ou hs;have HN:=D hn;obtain⟨th,hth⟩:∃ k,jo m (c,d) (g,h)=k:=⟨_,rfl⟩;rw [hth] at PL;obtain⟨k,hk⟩:∃ k,eu (m.map eD) ((c,d),(g,h))=k:=⟨_,rfl⟩;rw [hk] at PL;have HK:=D hk;obtain⟨fo,hfo⟩:∃ o,uD m (c,d) (g,h)=o:=⟨_,rfl⟩;rw [hfo];have FO:=D hfo;have SV:=D V.lt;clear h0 X Y Z V hs hu hr hl hf hn hk hfo;go_enter Tryz.func24,Tryz.ntmps24;go_wp2_with fail;generalize (((w.alloc (aG #[O Q me,nv,av,sv,aj so n sc,ov] 33)).alloc (aG #[O Q c,O Q d] 38)).alloc (aG #[O Q g,O Q h] 38)).alloc (aG #[O Q 0,O Q 0,O Q 0,O Q 0,aj aB 0 0,O Q 0,aF aN] 68)=W at *;refine PL.out.mono ?_;rintro e1 w1 ⟨rfl,hb⟩;have HB:=D hb;have X2:=D (X1.out.on hb);have V2:=V1.out.on hb;have BB:=D (B.out.trans (hb.mono B.out.size));clear x4 y0 y1 z0 z1 PL hb;have x4:=X2.out.cell 4;simp only [aD,aA,aI] at x4;cases th
 ·have FN:=D (show fo=aB by rw [<- FO.out]; exact Ch hth);obtain⟨v0,v1,v2,v3,v4,v5,v6⟩:=V2.oI;obtain⟨f0,f1,f2,f3,f4,f5,f6⟩:=V2.Z9;have zz:=V2.lt;have FB:=D (uh V2 (O Q 0) (O Q 0) (O Q 0) (O Q 0) (aj aB 0 0) (O Q 0) (aF aN));have BL:=D (pU (b:=w.heap.size+1+1+1) BB.out (by omega) (O Q 0) (O Q 0) (O Q 0) (O Q 0) (aj aB 0 0) (O Q 0) (aF aN));clear V2 hth;go_wp2_with fail;clear v0 v1 v2 v3 v4 v5 v6;obtain⟨v0,v1,v2,v3,v4,v5,v6⟩:=FB.out.oI;refine bS (v:=.tuple #[bZ #[O Q 0,O Q 0,O Q 0,O Q 0,aj aB 0 0,O Q 0,aF aN],aF aN]) (by simp [results,bQ,go_sem,v0,v1,v2,v3,v4,v5,v6]) rfl ?_;rw [FN.out];exact⟨rfl,BL.out⟩
 ·obtain⟨e,he,hke,hfe⟩:=sj hth;have FE:=D (show fo=ak e by rw [<- FO.out]; exact hfe);rw [HK.out] at he;have hkm:=(ah.1 he).1;have hkn:k<n:=by rw [<- HN.out,HU.out.len]; exact hkm
  obtain⟨y,hy,hx⟩:=HU.out.at k e he;obtain⟨p,ix,px⟩:=Pv HS.out rfl HN.out hy;obtain⟨p0,p1,p2,p3,p4,p5,p6⟩:=px w1 HB.out;obtain⟨y1,y2,y3,y4,⟨yo,yn,yc⟩,y6,y7⟩:=y;simp only at p0 p1 p2 p3 p4 p5 p6;have CP:=D (wX (y1,y2,y3,y4,(yo,yn,yc),y6,y7) e.p w1 (hx.2.2.2.2.on HB.out) (HF.out e (aC he)));have HX:=D hx;have V3:=D V2;clear px hy hx he hke hfe hth V2 hkm;go_wp2_with fail;refine CP.out.mono ?_;rintro e2 w2 ⟨⟨⟨u1,u2,u3⟩,rfl,ho⟩,hb⟩;have Y1:=V3.out.on hb;have SZ:=D (show w.heap.size+1+1+1<w1.heap.size from V3.out.lt);have B2:=D (BB.out.trans (hb.mono BB.out.size));clear CP hb p0 p1 p2 p3 p4 p5 p6 ix x4;obtain⟨v0,v1,v2,v3,v4,v5,v6⟩:=Y1.oI;obtain⟨f0,f1,f2,f3,f4,f5,f6⟩:=Y1.Z9;have zz:=Y1.lt;have FB:=D (uh Y1 (O Q y1) (O Q y2) (O Q y3) (O Q y4) (aj u1 u2 u3) (O Q y6) (aF y7));have BL:=D (pU (b:=w.heap.size+1+1+1) B2.out (by omega) (O Q y1) (O Q y2) (O Q y3) (O Q y4) (aj u1 u2 u3) (O Q y6) (aF y7));have FW:=D (I8 ho (w.heap.size+1+1+1) SZ.out (O Q y1) (O Q y2) (O Q y3) (O Q y4) (aj u1 u2 u3) (O Q y6) (aF y7));clear Y1 ho;go_wp2_with fail;clear v0 v1 v2 v3 v4 v5 v6;obtain⟨v0,v1,v2,v3,v4,v5,v6⟩:=FB.out.oI;refine bS (v:=.tuple #[bZ #[O Q y1,O Q y2,O Q y3,O Q y4,aj u1 u2 u3,O Q y6,aF y7],aF aP]) (by simp [results,bQ,go_sem,v0,v1,v2,v3,v4,v5,v6]) rfl ?_;rw [FE.out];exact⟨⟨(y1,y2,y3,y4,(u1,u2,u3),y6,y7),rfl,HX.out.1,HX.out.2.1,HX.out.2.2.1,HX.out.2.2.2.1,Row.dH FW.out⟩,BL.out⟩
theorem yR {w w':aJ} {row:Option Nat} (h:w.grownBy w' row):Off row w w':=⟨h.block,h.size⟩
theorem WO {wr w0:aJ} {B:Nat} {v:bK} {lu:List iH} {mu:List En} (x:iH) (e:En) (o:iU wr B v lu) (hA:eH (tq w0 B wr) lu mu) (hx:tq w0 B wr x e) (hn:lu.length<=1000) (hB:B<=wr.heap.size) :
  ∃ v' w',(Builtin.append_ #[30,30] 30 #[v,aj (ak ⟨wr.heap.size,0,aB⟩) 1 1]).run au (wr.alloc (aG (iR x).toArray 68))=.ok v' w'/\iU w' B v' (lu++[x])/\eH (tq w0 B w') (lu++[x]) (mu++[e]) /\
   (∀ B' W,B'<=B->Below B' W wr->Below B' W w')/\Off v.ownBlock (wr.alloc (aG (iR x).toArray 68)) w':=by
 have NB:=fI wr (aG (iR x).toArray 68);have hlit:=iD lF wr [x] 1 rfl (by simp) (iR x).toArray rfl;have o2:iU _ B v lu:=Bk.dG o NB;have hB2:B<=(wr.alloc (aG (iR x).toArray 68)).heap.size:=bf hB NB.size;obtain⟨v',w',r',o',gr⟩:=gG lF B o2 (Row.dH hlit) hn (by simp) hB2 30;refine⟨v',w',by simpa [EN] using r',o',?_,fun B' W hB' hb=>?_,yR gr⟩
 ·have hf:=yR gr;have hg:=jL o2;have g:∀ y z,tq w0 B wr y z->tq w0 B w' y z:=fun y z q=>(q.grow NB).off hf hg (by decide);exact (hA.mono g).append (.cons (g _ _ hx) .nil)
 ·exact (hb.trans (NB.mono (by have:=hb.size; omega))).grown gr (bf hB' hB2) fun j hj=>bf hB' (o2.lt j hj).1
theorem yS {w0 wr:aJ} {B:Nat} {x:iH} {e:En} (h:tq w0 B wr x e) (hl:Below w0.heap.size w0 wr):jd wr x e:=⟨h.1,h.2.1,h.2.2.1,h.2.2.2.1,h.2.2.2.2.row hl⟩
theorem Lr (me:Int) (nv av sv ov:bK) (ev:Sl) (l:List iH) (m:List En) (t:eT) (w:aJ) (hs:kM w (dU ev) l) (hu:eH (jd w) l m) (hr:iB m) (hl:l.length<=900) (hf:∀ e∈m,e.p.length<=900) :
  aY au 20 #[bZ #[O Q me,nv,av,sv,dU ev,ov],mY t] w fun e w'=>(∃ (v':Sl) (lu:List iH),e=ay (dU v')/\kM w' (dU v') lu/\eH (jd w') lu (mZ m t))/\Below w.heap.size w w':=by
 obtain⟨so,n,sc⟩:=ev;obtain⟨c,d⟩:=t;obtain⟨h0,X,Y⟩:=iE w #[O Q me,nv,av,sv,aj so n sc,ov] #[O Q c,O Q d] 33 38;have B:=D h0;have x4:=X.cell 4;obtain⟨y0,y1⟩:=Y.cs2;simp only [aD,aA,aI] at x4;have BR:=D (wh (so,n,sc) l m (c,d) _ (hs.on h0) (hu.mono fun _ _ q=>q.on h0) hr (by omega));obtain⟨q1,q2⟩:=WH (hs.on h0) (hu.mono fun _ _ q=>q.on h0) (c,d);have hbl:(mZ m (c,d)).length<=900:=by have:=uT m (c,d); have:=hu.len; omega
 have HF:=D (fun e he=>hf e (WJ m (c,d) e he));generalize (l.drop (iK m (c,d))).take (mZ m (c,d)).length=lb at *;generalize cutV (so,n,sc) (iK m (c,d)) (mZ m (c,d)).length=z at *;obtain⟨z1,z2,z3⟩:=z;generalize mZ m (c,d)=mb at *;have hn:lb.length=z2:=ou q1;have HN:=D hn;have hz:z2<=900:=by have:=q2.len; omega
 have Q1:=D q1;have Q2:=D q2;clear h0 X Y hs hu hr hl hf q1 q2 hn hbl;go_enter Tryz.func20,Tryz.ntmps20;go_wp2_with fail;generalize (w.alloc (aG #[O Q me,nv,av,sv,aj so n sc,ov] 33)).alloc (aG #[O Q c,O Q d] 38)=W at *;refine BR.out.mono ?_;rintro e1 w1 ⟨rfl,hb⟩;have HB:=D hb;have R1:=D (Q1.out.on hb);have R2:=D (Q2.out.mono fun _ _ q=>q.on hb);clear x4 y0 y1 BR hb Q1 Q2;go_wp2
 go_loopw [5,13] (fun v i wr=>∃ (k:Nat) (lu:List iH),k<=z2/\i=O Q k/\Below w1.heap.size w1 wr/\iU wr w1.heap.size v lu/\eH (tq w1 w1.heap.size wr) lu (mb.take k)) (fun _ i _=>z2-(intOf i).toNat)
 case atStart=>exact⟨0,[],bH _,rfl,aW _ _,gB _ _,by simpa using eH.nil⟩
 case round =>
  obtain⟨k,lu,hk,rfl,hbe,hown,hall⟩:=hrel;have BE:=D hbe;have OE:=D hown;have AE:=D hall;clear hbe hown hall;by_cases hlt:k<z2
  ·obtain⟨y,hy⟩:∃ y,lb[k]?=ak y:=⟨_,J (by rw [HN.out]; exact hlt)⟩;obtain⟨q,ix,px⟩:=Pv R1.out rfl HN.out hy;obtain⟨p0,p1,p2,p3,p4,p5,p6⟩:=px wr BE.out;obtain⟨e,he,_,hin⟩:=lJ R2.out hy;obtain⟨y1,y2,y3,y4,⟨yo,yn,yc⟩,y6,y7⟩:=y;simp only at p0 p1 p2 p3 p4 p5 p6;have NB:=D (fI wr (aG #[O Q y1,O Q y2,O Q y3,O Q y4,aj yo yn yc,O Q y6,aF y7] 68));have BF:=D (BE.out.trans (NB.out.mono BE.out.size));have hx:=dO wr #[O Q y1,O Q y2,O Q y3,O Q y4,aj yo yn yc,O Q y6,aF y7] 68;obtain⟨v0,v1,v2,v3,v4,v5,v6⟩:=hx.oI;have hw3:IntKind.i64.wrap ((k:Int)+1)=(k:Int)+1:=bA _ (by omega);have CP:=D (wX (y1,y2,y3,y4,(yo,yn,yc),y6,y7) e.p _ (hin.2.2.2.2.on BF.out) (HF.out e (aC he)));have HI:=D hin;have HE:=D he;clear px hy he hin hx;go_wp2_with fail;refine CP.out.mono ?_;rintro e3 w3 ⟨⟨⟨u1,u2,u3⟩,rfl,ho⟩,hb⟩;have BG:=BF.out.trans (hb.mono BF.out.size);have hl:lu.length=k:=by rw [AE.out.len,aK]; have:=HN.out; have:=R2.out.len; omega
   obtain⟨v',w',r',o',a',bl,_⟩:=WO (w0:=w1) (y1,y2,y3,y4,(u1,u2,u3),y6,y7) e (Bk.dG (Bk.dG OE.out NB.out) hb) (AE.out.mono fun _ _ q=>(q.grow NB.out).grow hb) ⟨HI.out.1,HI.out.2.1,HI.out.2.2.1,HI.out.2.2.2.1,Or.inr (dJ ho BF.out.size)⟩ (by omega) (by have:=BG.size; omega);have O2:=D o';have A2:=D a';have B2:=D (bl _ w1 (bL _) BG);have E2:=D (show mb.take (k+1)=mb.take k++[e] from List.take_succ_eq_append_getElem (ah.1 HE.out).1 ▸ by rw [(ah.1 HE.out).2]);clear CP hb ho BG hl o' a' bl v0 v1 v2 v3 v4 v5 v6 p0 p1 p2 p3 p4 p5 p6 ix NB BF;go_wp2_with (first | (at_builtin; refine wpList_append_run rfl _ _ 30 rfl rfl rfl r' ?_) | fail)
   go_roundw
   case rel=>exact⟨k+1,_,by omega,by go_num,B2.out,O2.out,by rw [E2.out]; exact A2.out⟩
   case measure=>simp [intOf]; omega
  ·obtain rfl:z2=k:=by omega
   have e:mb.take z2=mb:=List.take_of_length_le (by have:=HN.out; have:=R2.out.len; omega);rw [e] at AE;obtain⟨xU,xV,hv⟩:=(Row.dH OE.out).len;subst hv;clear e;go_wp2;go_ret;exact⟨⟨(xU,_,xV),lu,rfl,Row.dH OE.out,AE.out.mono fun _ _ q=>yS q BE.out⟩,B.out.trans ((HB.out.trans (BE.out.mono HB.out.size)).mono B.out.size)⟩
theorem jI {p:List C5} (h:dW p):p.length<=900:=by
 obtain⟨a,na,rfl⟩:=h;rw [List.length_map];have:=na.five;omega
theorem Zu {α:Type} {E:Ek α} {ob:Option Nat} {W x:aJ} {B g n cap:Nat} {l:List α} (h:Off ob W x) (ho:Own E W B (aj (ak ⟨g,0,aB⟩) n cap) l) (hne:ak g≠ob):Own E x B (aj (ak ⟨g,0,aB⟩) n cap) l:=by
 refine⟨ho.1,?_⟩;rcases ho.2 with h2|⟨g',cap',cur,h1,h2,h3,h4⟩
 ·exact Or.inl h2
 ·obtain⟨rfl,_⟩:g=g'/\True:=by simp at h1; exact⟨h1.1,trivial⟩
  exact Or.inr ⟨g,cap',cur,h1,h2,by rw [h.1 g (lt_of_heap h3) hne]; exact h3,h4⟩
theorem Rk (g f k K C:Nat) (h:k<K) (w:aJ):(Instr.indexAt 30 (aj (ak ⟨g,f * 7,aB⟩) K C) (O Q k)).run au w=.ok (aH (ak ⟨g,(f+k) * 7,aB⟩)) w:=by
 have h1:(Instr.indexAt 30 (aj (ak ⟨g,f * 7,aB⟩) K C) (O Q k)).run au w=.ok (aH (ak ((⟨g,f * 7,aB⟩:bV).add (k * 7)))) w:=xL lF ⟨g,f * 7,aB⟩ k K C h w;rw [h1];have e:(⟨g,f * 7,aB⟩:bV).add (k * 7)=⟨g,(f+k) * 7,aB⟩:=by
  rw [Nat.add_mul];by_cases hk:k * 7=0
  ·rw [hk,add_zero,Nat.add_zero]
  ·rw [add_pos _ _ hk]
 rw [e]
theorem Zv {α:Type} {E:Ek α} {W:aJ} {B g n cap:Nat} {l:List α} (h:Own E W B (aj (ak ⟨g,0,aB⟩) n cap) l):B<=g:=by
 rcases gQ h with⟨h1,_⟩|⟨g',cap',cur,h1,h2,_⟩
 ·cases h1
 ·obtain⟨rfl,_⟩:g=g'/\True:=by simp at h1; exact⟨h1.1,trivial⟩
  exact h2
theorem But.off {g:Nat} {ob:Option Nat} {w W x:aJ} (h:But g w W) (ho:Off ob W x) (hb:∀ b,ob=ak b->w.heap.size<=b):But g w x :=
 ⟨fun j hj hne=>(ho.1 j (bM hj h.2) fun e=>by have:=hb j e.symm; omega).trans (h.1 j hj hne),bf h.2 ho.2⟩
theorem Gw {α:Type} {E:Ek α} {W:aJ} {B:Nat} {v:bK} {l:List α} (h:Own E W B v l):∀ b,v.ownBlock=ak b->B<=b:=by
 intro b hb;rcases gQ h with⟨rfl,_⟩|⟨g',cap',cur,rfl,h2,_⟩
 ·cases hb
 ·obtain rfl:g'=b:=by simpa [Value.ownBlock] using hb
  exact h2
theorem Zw {W:aJ} {B g n cap f K:Nat} {l:List iH} (ho:iU W B (aj (ak ⟨g,0,aB⟩) n cap) l) (hK:f+K<=n) (h0:0<K):kM W (aj (ak ⟨g,f * 7,aB⟩) K (cap-f)) ((l.drop f).take K):=by
 have hl:l.length=n:=gJ ho;have hnc:n<=cap:=by
  rcases gQ ho with⟨h1,_⟩|⟨g',cap',cur,h1,_,_,h4,_⟩
  ·cases h1
  ·obtain⟨_,_,rfl⟩:g=g'/\n=l.length/\cap=cap':=by simpa using h1
   rw [hl] at h4;exact h4
 have h:=(Gv (v:=(ak ⟨g,0,aB⟩,n,cap)) (Row.dH ho) f K (by omega)).2;unfold cutV at h;simp only at h;rw [if_neg (by omega),lS] at h;exact h
structure Ra (w0 w wr:aJ) (B g n cap:Nat) (a c:List En) (s:List En×List En) (v:bK):Prop where
 row:∃ l,iU wr B (aj (ak ⟨g,0,aB⟩) n cap) l/\eH (tq w0 B wr) l (a++s.1++c)
 up:∃ lu,iU wr w.heap.size v lu/\eH (tq w0 w.heap.size wr) lu s.2
 but:But g w wr
 low:∀ B' W,B'<=g->Below B' W w->Below B' W wr
theorem Rm (w0:aJ) (B g n cap f K:Nat) (ra:Option bV) (rc:Nat) (l:List iH) (m:List En) (w:aJ) (hw0:Below w0.heap.size w0 w) (hB0:w0.heap.size<=B) (ho:iU w B (aj (ak ⟨g,0,aB⟩) n cap) l) (hA:eH (tq w0 B w) l m) (hfK:f+K<=n) (hn:n<=900)
  (hra:0<K->ra=ak ⟨g,f * 7,aB⟩/\rc=cap-f) (hok:∀ e∈m,dW e.p) :
  aY au 54 #[aj ra K rc] w fun e w'=>∃ v':Sl,e=ay (dU v')/\Ra w0 w w' B g n cap (m.take f) (m.drop (f+K)) (gW ((m.drop f).take K) K) (dU v'):=by
 obtain⟨a,ha⟩:∃ a,m.take f=a:=⟨_,rfl⟩;obtain⟨r,hr⟩:∃ r,(m.drop f).take K=r:=⟨_,rfl⟩;obtain⟨c,hc⟩:∃ c,m.drop (f+K)=c:=⟨_,rfl⟩;have hmn:m.length=n:=by rw [<- hA.len]; exact gJ ho
 have hm:m=a++r++c:=by
  rw [<- ha,<- hr,<- hc,aM,show m.drop (f+K)=(m.drop f).drop K by rw [List.drop_drop],aR,aR]
 have hal:a.length=f:=by rw [<- ha,aK]; omega
 have hrl:r.length=K:=by rw [<- hr,aK,aT]; omega
 have hrr:∀ k,(gW r k).1.length=K:=fun k=>by rw [vX,hrl]
 have hokr:∀ k,∀ e∈(gW r k).1,dW e.p:=fun k=>by
  induction k with
  | zero=>intro e he; exact hok e (by rw [hm]; exact List.mem_append_left _ (List.mem_append_right _ he))
  | succ k ih =>
   rw [nV];unfold mg
   split
   ·exact ih
   ·rename_i e0 he0
    split
    ·exact ih
    ·intro e he;rcases List.mem_or_eq_of_mem_set he with h1|h1
     ·exact ih e h1
     ·rw [h1]; exact ih e0 (aC he0)
 rw [ha,hr,hc];have hgw:g<w.heap.size:=by
  obtain⟨cur,hg⟩:=jf ho;exact hg.lt
 have hBg:B<=g:=Zv ho;have R0:Ra w0 w w B g n cap a c (gW r 0) (aj aB 0 0):=⟨⟨l,ho,by rw [show a++(gW r 0).1++c=m from hm.symm]; exact hA⟩,⟨[],gB _ _,.nil⟩,But.of_below (aW _ _),fun _ _ _ h=>h⟩;have W0:=D hw0;have OKR:=D hokr;have RR:=D hrr;have RA:=D hra;have RL:=D hrl;have AL_:=D hal;have R0:=D R0;have HB:=D (show w0.heap.size<=g from by omega);clear hw0 ho hA hra hok hm ha hr hc hmn hokr hrr l m hrl hal;go_enter Tryz.func54,Tryz.ntmps54;go_wp2
 go_loopw [3,7] (fun v i wr=>∃ k:Nat,k<=K/\i=O Q k/\Ra w0 w wr B g n cap a c (gW r k) v) (fun _ i _=>K-(intOf i).toNat)
 case atStart=>exact⟨0,bH _,rfl,R0.out⟩
 case round =>
  obtain⟨k,hk,rfl,hRa⟩:=hrel;have RX:=D hRa;have hwr:Below w0.heap.size w0 wr:=hRa.low _ _ HB.out W0.out;have WR:=D hwr;clear hRa hwr R0;by_cases hlt:k<K
  ·obtain⟨aiY,aiZ⟩:=RA.out (by omega);subst aiY;subst aiZ;obtain⟨L,hL,hLA⟩:=RX.out.row;have hRk:=RR.out k;obtain⟨s,hs⟩:∃ s,gW r k=s:=⟨_,rfl⟩;have RS:=D (nV r k);have OKS:=D (OKR.out k);rw [hs] at hLA hRk RX RS OKS;obtain⟨r',us⟩:=s;simp only at hLA hRk OKS;obtain⟨e,he⟩:∃ e,r'[k]?=ak e:=⟨_,J (by omega)⟩;have hM:(a++r'++c)[f+k]?=ak e:=by
    rw [aM,aS (by rw [AL_.out]; omega),AL_.out,aO,aU (by omega)];exact he
   obtain⟨y,hy,hx⟩:=hLA.at (f+k) e hM;have ix:=Rk g f k K (cap-f) hlt;have cc:=jG lF hL hy wr (aW _ _);obtain⟨cur,hbx⟩:=jf hL;have fr:=hbx.fr ((f+k) * 7+6);have zl:=hbx.lt;obtain⟨y1,y2,y3,y4,⟨yo,yn,yc⟩,y6,y7⟩:=y;have c0:=cc 0 _ rfl;have c1:=cc 1 _ rfl;have c2:=cc 2 _ rfl;have c3:=cc 3 _ rfl;have c4:=cc 4 _ rfl;have c5:=cc 5 _ rfl;have c6:=cc 6 _ rfl;simp [Addr.add,EN] at c0 c1 c2 c3 c4 c5 c6;have CUT:=Zw (f:=f) (K:=K) hL hfK (by omega);have CUA:eH (jd wr) ((L.drop f).take K) r':=by
    have h:=((hLA.drop f).take K).mono fun _ _ q=>yS q WR.out;rw [aM,List.drop_left' AL_.out,List.take_left' hRk] at h;exact h
   obtain⟨t,ht⟩:∃ t,C8 r' e.p=t:=⟨_,rfl⟩;have CV:=D (zh (ak ⟨g,f * 7,aB⟩,K,cap-f) (aj yo yn yc) _ r' e.p wr CUT CUA (yS hx WR.out).2.2.2.2 OKS.out (OKS.out e (aC he)));rw [ht] at CV;have HX:=D hx;have HL:=D hL;have HLA:=D hLA;have HY:=D hy;have HM:=D hM;have RE:=D (show gW r (k+1)=if y7=aP\/t=aP then (r',us) else (r'.set k (Cv e),us++[Cv e]) by
    rw [RS.out];unfold mg;simp only [he];rw [ht,<- hx.2.2.2.1])
   have hw3:IntKind.i64.wrap ((k:Int)+1)=(k:Int)+1:=bA _ (by omega);have SS:=D hs;have RK:=D hRk;clear cc hbx CUT CUA ht hx hL hLA hy hM he RS hs hRk;cases y7
   ·go_wp2_with fail;refine CV.out.mono ?_;rintro e3 w3 ⟨rfl,hb⟩;clear CV;cases t
    ·have d6:=(hb.cell (p:=⟨g,(f+k) * 7+6,aB⟩) zl).trans c6;have f6:w3.frozen? ⟨g,(f+k) * 7+6,aB⟩=aN:=(hb.frozen (p:=⟨g,(f+k) * 7+6,aB⟩) zl).trans fr;have z3:g<w3.heap.size:=bM zl hb.size;obtain⟨lu,hu1,hu2⟩:=RX.out.up;obtain⟨o4,_,_⟩:=Np (Bk.dG HL.out hb) HY.out;have bt:=dY w3 g ((f+k) * 7+6) (aF aP);obtain⟨amq,hg3⟩:=jf (Bk.dG HL.out hb);have G1:∀ x z,tq w0 B wr x z->tq w0 B (w3.setCell ⟨g,(f+k) * 7+6,aB⟩ (aF aP)) x z:=fun x z q=>(q.grow hb).but bt hg3 (by decide);have G2:∀ x z,tq w0 w.heap.size wr x z->tq w0 w.heap.size (w3.setCell ⟨g,(f+k) * 7+6,aB⟩ (aF aP)) x z:=fun x z q=>(q.grow hb).but bt hg3 (by decide);have O4:=D o4;have A4:=D (eH.set2 (f+k) (HLA.out.mono G1) (show tq w0 B (w3.setCell ⟨g,(f+k) * 7+6,aB⟩ (aF aP)) (y1,y2,y3,y4,(yo,yn,yc),y6,aP) (Cv e) from ⟨(G1 _ _ HX.out).1,(G1 _ _ HX.out).2.1,(G1 _ _ HX.out).2.2.1,rfl,(G1 _ _ HX.out).2.2.2.2⟩));have U4:=D (dP (Bk.dG hu1 hb) g ((f+k) * 7+6) (aF aP) hgw);have V4:=D (hu2.mono G2);have B4:=D ((RX.out.but.trans (But.of_below hb)).trans bt);have L4:=D (show ∀ B' W,B'<=g->Below B' W w->Below B' W (w3.setCell ⟨g,(f+k) * 7+6,aB⟩ (aF aP)) from fun B' W h1 h2=>((RX.out.low B' W h1 h2).trans (hb.mono (by have:=zl; omega))).setCell (p:=⟨g,(f+k) * 7+6,aB⟩) h1 _);have HY4:=D (show (L.set (f+k) (y1,y2,y3,y4,(yo,yn,yc),y6,aP))[f+k]?=ak (y1,y2,y3,y4,(yo,yn,yc),y6,aP) from bJ (ah.1 HY.out).1);have US:=D (show lu.length<=1000 by
      have h1:lu.length=us.length:=hu2.len;have h2:=Ei r k;rw [SS.out] at h2;simp only at h2;omega)
     have PO:=D (jI (OKS.out e (by
      have h:=HM.out;rw [aM,aS (by rw [AL_.out]; omega),AL_.out,aO,aU (by rw [RK.out]; exact hlt)] at h;exact aC h)))
     have AS:=D (show (a++r'++c).set (f+k) (Cv e)=a++r'.set k (Cv e)++c by
      rw [aM,List.set_append_right _ _ (by rw [AL_.out]; omega),AL_.out,aO,List.set_append_left _ _ (by rw [RK.out]; exact hlt),aM])
     clear hu1 hu2 o4 bt hg3 G1 G2 c0 c1 c2 c3 c4 c5 c6 fr;go_upto_region 7 with fail;clear d6 f6 z3 hb;generalize w3.setCell ⟨g,(f+k) * 7+6,aB⟩ (aF aP)=w4 at *;have cc:=jG lF O4.out HY4.out w4 (aW _ _);have c0:=cc 0 _ rfl;have c1:=cc 1 _ rfl;have c2:=cc 2 _ rfl;have c3:=cc 3 _ rfl;have c4:=cc 4 _ rfl;have c5:=cc 5 _ rfl;have c6:=cc 6 _ rfl;simp [Addr.add,EN] at c0 c1 c2 c3 c4 c5 c6;have X4:=D (show tq w0 B w4 (y1,y2,y3,y4,(yo,yn,yc),y6,aP) (Cv e) from by
      obtain⟨y',h1,h2⟩:=A4.out.at (f+k) (Cv e) (bJ (ah.1 HM.out).1);rw [HY4.out] at h1;rw [aL h1];exact h2)
     have CP:=D (wX (y1,y2,y3,y4,(yo,yn,yc),y6,aP) e.p w4 (yS X4.out (L4.out _ _ HB.out W0.out)).2.2.2.2 PO.out);clear cc;go_wp2_with fail;refine CP.out.mono ?_;rintro e5 w5 ⟨⟨⟨u1,u2,u3⟩,rfl,ho⟩,hb⟩;have sz4:=B4.out.2;obtain⟨v',w',r7,o',a',bl,hof⟩:=WO (w0:=w0) (B:=w.heap.size) (y1,y2,y3,y4,(u1,u2,u3),y6,aP) (Cv e) (Bk.dG U4.out hb) (V4.out.mono fun _ _ q=>q.grow hb) ⟨X4.out.1,X4.out.2.1,X4.out.2.2.1,X4.out.2.2.2.1,Or.inr (dJ ho sz4)⟩ US.out (by have:=hb.size; omega);have nb:=fI w5 (aG (iR (y1,y2,y3,y4,(u1,u2,u3),y6,aP)).toArray 68);have hbk:=Gw U4.out;have RX2:=D (show Ra w0 w w' B g n cap a c (gW r (k+1)) v' from by
      rw [RE.out,if_neg (by simp)];have hg5:=jf (Bk.dG (Bk.dG O4.out hb) nb);refine⟨⟨_,Zu hof (Bk.dG (Bk.dG O4.out hb) nb) fun e=>?_,?_⟩,⟨_,o',a'⟩,But.off ((B4.out.trans (But.of_below hb)).trans (But.of_below nb)) hof hbk,fun B' W h1 h2=>bl B' W (by omega) ((L4.out B' W h1 h2).trans (hb.mono (by omega)))⟩
      ·have:=hbk g e.symm;omega
      ·rw [<- AS.out];have tg:=jL (Bk.dG (Bk.dG U4.out hb) nb);exact A4.out.mono fun _ _ q=>(((q.grow hb).grow nb).off hof tg (by decide)))
     clear CP hb ho o' a' bl hof nb hbk c0 c1 c2 c3 c4 c5 c6 ix sz4;go_wp2_with (first | (at_builtin; refine wpList_append_run rfl _ _ 30 rfl rfl rfl r7 ?_) | fail)
     go_roundw
     case rel=>exact⟨k+1,by omega,by go_num,RX2.out⟩
     case measure=>simp [intOf]; omega
    ·have RX2:=D (show Ra w0 w w3 B g n cap a c (gW r (k+1)) _ from by
      rw [RE.out,if_pos (Or.inr rfl)];obtain⟨q1,q2,q3,q4⟩:=RX.out;exact⟨by obtain⟨l,h1,h2⟩:=q1; exact⟨l,Bk.dG h1 hb,h2.mono fun _ _ q=>q.grow hb⟩,by obtain⟨l,h1,h2⟩:=q2; exact⟨l,Bk.dG h1 hb,h2.mono fun _ _ q=>q.grow hb⟩,q3.trans (But.of_below hb),fun B' W h1 h2=>(q4 B' W h1 h2).trans (hb.mono (by have:=zl; omega))⟩)
     clear hb c0 c1 c2 c3 c4 c5 c6 fr ix;go_wp2
     go_roundw
     case rel=>exact⟨k+1,by omega,by go_num,RX2.out⟩
     case measure=>simp [intOf]; omega
   ·clear CV;have RX2:=D (show Ra w0 w wr B g n cap a c (gW r (k+1)) _ from by
     rw [RE.out,if_pos (Or.inl rfl)];exact RX.out)
    go_wp2
    go_roundw
    case rel=>exact⟨k+1,by omega,by go_num,RX2.out⟩
    case measure=>simp [intOf]; omega
  ·obtain rfl:K=k:=by omega
   obtain⟨lu,hu,_⟩:=RX.out.up;obtain⟨xU,xV,hv⟩:=(Row.dH hu).len;subst hv;clear hu;go_wp2;go_ret;exact⟨(xU,_,xV),rfl,RX.out⟩
end Sb
end Go.Proofs.YtkcfgbddlpomgaaGreat
