/-
  ahead, place and bra. Conditions as told.
-/
import Derived.Test.YtghlpefopidlaaaGreatOQ027
import Derived.Shelf.Abstract
import Derived.Test.YtghlpefopidlaaaGreatOQ029
set_option maxRecDepth 100000
set_option maxHeartbeats 64000000
open _root_.Bool renaming eq_false_iff->aJ,false->aK,true->aM
open _root_.Go renaming World->aL,Calls->aO,Value->aV,Addr->aW
open Go.Ending renaming returned->Q
open Go.IntKind renaming i64->O
open Go.Lib renaming hid->J
open Go.Obj renaming cells->aB
open Go.Proofs.Tryz renaming prog->U,ntmps137->aR,func137->aS,func136->aT,func132->aU
open Go.Value renaming int->L,pointer->ah,slice->aj,bool->aI
open _root_.List renaming getElem?_eq_getElem->D,getElem?_eq_some_iff->V,takeWhile_cons->au,getElem?_cons_zero->ay,takeWhile_sublist->aA,getElem?_toArray->aC,length_take->aD,length_drop->aF,getElem?_drop->aH,take_append_drop->aN,getElem?_map->aP,length_cons->aQ
open _root_.Option renaming some->K,none->ak
open Option.some renaming inj->aG
namespace Go.Proofs.YtghlpefopidlaaaGreat
namespace Sb
open Go.RowKit Go.Sort Rw YtghlpefopidlaaaGreat.Nm Pr Bk Av
theorem Ir (x:iT) (t s:dO) (r:Bool) (hr:iF (Ap x) (t,s)=r) (w:aL):aO U 137 #[tF x,pK t,pK s] w fun e w'=>e=Q (aI r)/\Below w.heap.size w w':=by
 obtain⟨y1,y2,y3,y4,⟨yo,yn,yc⟩,y6,y7⟩:=x;obtain⟨c,d⟩:=t;obtain⟨g,h⟩:=s;obtain⟨h0,X,Y,Z⟩:=iZ w #[L O y1,L O y2,L O y3,L O y4,aj yo yn yc,L O y6,aI y7] #[L O c,L O d] #[L O g,L O h] 67 23 23;have x1:=X.cell 1;have x0:=X.cell 0;have x2:=X.cell 2;have x3:=X.cell 3;obtain⟨c0,c1⟩:=Y.cs2;obtain⟨d0,d1⟩:=Z.cs2;simp only [aC,ay,List.getElem?_cons_succ] at x0 x1 x2 x3;have C1:=mD (y1,y2) (c,d);have C2:=mD (y3,y4) (g,h);have B:=J h0;have he:iF ((y1,y2),(y3,y4)) ((c,d),(g,h))=if ((y1,y2):dO)=(c,d) then dJ (y3,y4) (g,h) else dJ (y1,y2) (c,d):=by
  unfold iF;by_cases q:((y1,y2):dO)=(c,d)
  ·rw [if_pos q,q,gZ,(tN _ _).2 rfl]; rfl
  ·rw [if_neg q,aJ.2 fun q2=>q ((tN _ _).1 q2)]; simp
 clear h0 X Y Z;by_cases q:((y1,y2):dO)=(c,d)
 ·have hr2:=J (show dJ (y3,y4) (g,h)=r by rw [<- hr]; show _=iF ((y1,y2),(y3,y4)) ((c,d),(g,h)); rw [he,if_pos q]);obtain⟨rfl,rfl⟩:y1=c/\y2=d:=by simpa using q
  have hne:=Rm y1 y2 y1 y2 aK (by simp);clear he hr q;go_enter aS,aR;go_wp2_with fail;refine (C2 _).mono ?_;rintro e w1 ⟨rfl,hb⟩;go_wp2;go_ret;exact⟨congrArg (fun b=>Q (aI b)) hr2.out,B.out.trans (hb.mono B.out.size)⟩
 ·have hr2:=J (show dJ (y1,y2) (c,d)=r by rw [<- hr]; show _=iF ((y1,y2),(y3,y4)) ((c,d),(g,h)); rw [he,if_neg q]);have hne:=Rm y1 y2 c d aM (by rw [show (y1 == c && y2 == d)=aK from aJ.2 fun h=>q (by simp at h; rw [h.1,h.2])]; rfl);clear he hr q;go_enter aS,aR;go_wp2_with fail;refine (C1 _).mono ?_;rintro e w1 ⟨rfl,hb⟩;go_wp2;go_ret;exact⟨congrArg (fun b=>Q (aI b)) hr2.out,B.out.trans (hb.mono B.out.size)⟩
theorem qg (g:Nat) (cb:Array aV) (eg:∀ args w,(callFunc g args).run U w=.ok (.enter g args) w) (n k:Nat) (p:Nat->Bool) (w:aL) (hn:n<=1000000)
  (hf:∀ i,i<n->∀ W,Below w.heap.size w W->aO U g (#[L O i]++cb) W fun e w'=>e=Q (aI (p i))/\Below W.heap.size W w')
  (hk:k<=n) (hlo:∀ i,i<k->p i=aK) (hhi:∀ i,k<=i->i<n->p i=aM) :
  aO U 110 #[L O n,.func (.func g) #[] cb] w fun e w'=>e=Q (L O k)/\Below w.heap.size w w':=by
 have HF:=J hf;have LO:=J hlo;have HI:=J hhi;clear hf hlo hhi;go_enter Tryz.func110,Tryz.ntmps110;go_wp2
 go_loopg [5,6] n (fun kx s5 s6 wr=>∃ lo hi:Nat,s5=L O lo/\s6=L O hi/\lo<=k/\k<=hi/\hi<=n/\hi-lo<=kx/\Below w.heap.size w wr)
 case atStart=>exact⟨0,n,rfl,rfl,Nat.zero_le _,hk,Nat.le_refl _,by omega,Below.refl _ _⟩
 case round =>
  obtain⟨lo,hi,rfl,rfl,hlk,hkh,hin,hg,hb⟩:=hrel;have B:=J hb;clear hb;by_cases hlt:lo<hi
  ·have hc:=HF.out ((lo+hi) / 2) (by omega) wr B.out;rw [show (((lo+hi) / 2:Nat):Int)=((lo:Int)+(hi:Int)) / 2 by omega] at hc;cases hp:p ((lo+hi) / 2) <;> rw [hp] at hc
   ·have HP:=J hp;have HK:=J (show (lo+hi) / 2+1<=k from by
     rcases Nat.lt_or_ge ((lo+hi) / 2) k with h|h
     ·exact h
     ·have:=HI.out _ h (by omega); rw [hp] at this; cases this)
    clear hp;go_wp2_with (go_at_fn g; refine hc.mono ?_; rintro e w' ⟨rfl,hb2⟩)
    go_roundg (hi-((lo+hi) / 2+1))
    case measure=>omega
    case rel=>exact⟨(lo+hi) / 2+1,hi,by rw [show ((lo:Int)+(hi:Int)) / 2+1=(((lo+hi) / 2+1:Nat):Int) by omega],rfl,HK.out,hkh,hin,Nat.le_refl _,B.out.trans (hb2.mono B.out.size)⟩
   ·have HP:=J hp;have HK:=J (show k<=(lo+hi) / 2 from by
     rcases Nat.lt_or_ge ((lo+hi) / 2) k with h|h
     ·have:=LO.out _ h; rw [hp] at this; cases this
     ·exact h)
    clear hp;go_wp2_with (go_at_fn g; refine hc.mono ?_; rintro e w' ⟨rfl,hb2⟩)
    go_roundg ((lo+hi) / 2-lo)
    case measure=>omega
    case rel=>exact⟨lo,(lo+hi) / 2,rfl,by rw [show ((lo:Int)+(hi:Int)) / 2=(((lo+hi) / 2:Nat):Int) by omega],hlk,HK.out,by omega,Nat.le_refl _,B.out.trans (hb2.mono B.out.size)⟩
  ·obtain rfl:hi=lo:=by omega
   obtain rfl:hi=k:=by omega
   go_wp2;go_ret;exact⟨rfl,B.out⟩
theorem uY {W W1:aL} {v:aV} {l:List iT} {ao:Option aW} {n c k:Nat} {x:iT} (h:nk W v l) (hv:v=aj ao n c) (hn:l.length=n) (hk:l[k]?=K x) (hb:Below W.heap.size W W1) :
  ∃ p:aW,(∀ w,(Instr.indexAt 27 (aj ao n c) (L O k)).run U w=.ok (ah (K p)) w) /\
   (∀ d os,(grow (redrawn W1 d) os).cell? p=K (L O x.1))/\(∀ d os,(grow (redrawn W1 d) os).cell? ⟨p.block,p.off+1,ak⟩=K (L O x.2.1)) /\
   (∀ d os,(grow (redrawn W1 d) os).cell? ⟨p.block,p.off+2,ak⟩=K (L O x.2.2.1))/\(∀ d os,(grow (redrawn W1 d) os).cell? ⟨p.block,p.off+3,ak⟩=K (L O x.2.2.2.1)) /\
   (∀ d os,(grow (redrawn W1 d) os).cell? ⟨p.block,p.off+4,ak⟩=K (dN x.2.2.2.2.1))/\(∀ d os,(grow (redrawn W1 d) os).cell? ⟨p.block,p.off+5,ak⟩=K (L O x.2.2.2.2.2.1)) /\
   (∀ d os,(grow (redrawn W1 d) os).cell? ⟨p.block,p.off+6,ak⟩=K (aI x.2.2.2.2.2.2)):=by
 obtain⟨p,h1,h2⟩:=Tx h hv hn hk;obtain⟨c0,c1,c2,c3,c4,c5,c6⟩:=h2 _ hb;exact⟨p,h1,cell_regrown c0,cell_regrown c1,cell_regrown c2,cell_regrown c3,cell_regrown c4,cell_regrown c5,cell_regrown c6⟩
theorem Oc (args:Array aV) (w:aL):(callFunc 136 args).run U w=.ok (.enter 136 args) w:=fG aT rfl rfl args w
theorem Od (args:Array aV) (w:aL):(callFunc 132 args).run U w=.ok (.enter 132 args) w:=fG aU rfl rfl args w
theorem Oe (i:Nat) (b1 b2 b3:Nat) (ao:Option aW) (n ac:Nat) (l:List iT) (t s:dO) (y:iT) (r:Bool) (w:aL) (hv:nk w (aj ao n ac) l) (hn:l.length=n) (hy:l[i]?=K y) (hr:(!iF (Ap y) (t,s))=r)
  (h1:dx w b1 #[aj ao n ac] 27) (h2:dx w b2 #[L O t.1,L O t.2] 23) (h3:dx w b3 #[L O s.1,L O s.2] 23) :
  aO U 136 #[L O i,ah (K ⟨b1,0,ak⟩),ah (K ⟨b2,0,ak⟩),ah (K ⟨b3,0,ak⟩)] w fun e w'=>e=Q (aI r)/\Below w.heap.size w w':=by
 obtain⟨p,ix,p0,p1,p2,p3,p4,p5,p6⟩:=uY hv rfl hn hy (Below.refl _ _);have a0:=cell_regrown (h1.cell 0);have b0:=cell_regrown (h2.cell 0);have b1':=cell_regrown (h2.cell 1);have c0:=cell_regrown (h3.cell 0);have c1:=cell_regrown (h3.cell 1);obtain⟨q,hq⟩:∃ q,iF (Ap y) (t,s)=q:=⟨_,rfl⟩;have C:∀ k os,aO U 137 #[tF y,pK t,pK s] (grow (redrawn w k) os) fun e w''=>e=Q (aI q)/\∃ p:Regrown,w''=grow (redrawn w p.d) p.os:=fun k os=>Calls.regrown_of (Ir y t s q hq _);rw [hq] at hr;have R:=J hr;have BN:=J (fun dq osq=>below_regrown w dq osq);obtain⟨y1,y2,y3,y4,⟨yo,yn,yc⟩,y6,y7⟩:=y;obtain⟨c,d⟩:=t;obtain⟨g,h⟩:=s;simp only at p0 p1 p2 p3 p4 p5 p6 b0 b1' c0 c1 C;clear hv hn hy hr hq h1 h2 h3;go_enter aT,Tryz.ntmps136;go_wp2;refine wp_region_quiet_below (by kernel_rfl) (by kernel_rfl) ?_
 repeat (go_big_quiet_step (first | (with_reducible exact C _ _) | exact RJ _ _))
 refine wpQuiet_nil ?_;intro _ hw';obtain⟨⟨dq,osq⟩,hw''⟩:=hw';subst hw'';go_wp2;go_ret;exact⟨congrArg (fun b=>Q (aI b)) R.out,BN.out _ _⟩
theorem Og (i:Nat) (b1 b2:Nat) (ao:Option aW) (n ac:Nat) (l:List iT) (t:dO) (y:iT) (r:Bool) (w:aL) (hv:nk w (aj ao n ac) l) (hn:l.length=n) (hy:l[i]?=K y) (hr:(!dJ (y.1,y.2.1) t)=r)
  (h1:dx w b1 #[aj ao n ac] 27) (h2:dx w b2 #[L O t.1,L O t.2] 23) :
  aO U 132 #[L O i,ah (K ⟨b1,0,ak⟩),ah (K ⟨b2,0,ak⟩)] w fun e w'=>e=Q (aI r)/\Below w.heap.size w w':=by
 obtain⟨p,ix,p0,p1,p2,p3,p4,p5,p6⟩:=uY hv rfl hn hy (Below.refl _ _);have a0:=cell_regrown (h1.cell 0);have b0:=cell_regrown (h2.cell 0);have b1':=cell_regrown (h2.cell 1);have C:∀ k os,aO U 31 #[pK (y.1,y.2.1),pK t] (grow (redrawn w k) os) fun e w''=>e=Q (aI (dJ (y.1,y.2.1) t))/\∃ p:Regrown,w''=grow (redrawn w p.d) p.os:=fun k os=>Calls.regrown_of (mD (y.1,y.2.1) t _);generalize dJ (y.1,y.2.1) t=q at *;have R:=J hr;have BN:=J (fun dq osq=>below_regrown w dq osq);obtain⟨y1,y2,y3,y4,⟨yo,yn,yc⟩,y6,y7⟩:=y;obtain⟨c,d⟩:=t;simp only at p0 p1 p2 p3 p4 p5 p6 b0 b1' C;clear hv hn hy hr h1 h2 p2 p3 p4 p5 p6;go_enter aU,Tryz.ntmps132;go_wp2;refine wp_region_quiet_below (by kernel_rfl) (by kernel_rfl) ?_
 repeat (go_big_quiet_step (first | (with_reducible exact C _ _) | exact xY _ _))
 refine wpQuiet_nil ?_;intro _ hw';obtain⟨⟨dq,osq⟩,hw''⟩:=hw';subst hw'';go_wp2;go_ret;exact⟨congrArg (fun b=>Q (aI b)) R.out,BN.out _ _⟩
theorem gL {α:Type} {E:Ek α} {W:aL} {so:Option aW} {sn sc:Nat} {l:List α} (h:Row E W (aj so sn sc) l):l.length=sn:=by
 obtain⟨ao,ac,hv⟩:=h.len;simp at hv;exact hv.2.1.symm
theorem jC {W:aL} {l:List iT} {m:List En} (h:eG (lH W) l m) {i:Nat} {y:iT} (hy:l[i]?=K y):∃ e,m[i]?=K e/\Ap y=dF e/\lH W y e:=by
 have hlt:=(V.1 hy).1;obtain⟨e,he⟩:∃ e,m[i]?=K e:=⟨_,D (by rw [<- h.len]; exact hlt)⟩;obtain⟨y',hy',hx⟩:=h.at i e he;rw [hy] at hy';obtain rfl:=aG hy';exact⟨e,he,Prod.ext hx.1 hx.2.1,hx⟩
theorem rY {m:List En} (hr:fV m) {i j:Nat} {x y:En} (hij:i<j) (hx:m[i]?=K x) (hy:m[j]?=K y):qK x y<0:=by
 obtain⟨h1,rfl⟩:=V.1 hx;obtain⟨h2,rfl⟩:=V.1 hy;exact List.pairwise_iff_getElem.1 hr i j h1 h2 hij
theorem mq (l:List (dO×dO)) (x:dO×dO):dR l x<=l.length:=(aA _).length_le
theorem oG {m:List En} (hr:fV m) (x:dO×dO) {i:Nat} {e:En} (hi:dR (m.map dF) x<=i) (he:m[i]?=K e):iF (dF e) x=aK:=by
 have hlt:=(V.1 he).1;obtain⟨z,hz⟩:∃ z,m[dR (m.map dF) x]?=K z:=⟨_,D (by omega)⟩;have h0:=rT (m.map dF) x (dF z) (by rw [aP,hz]; rfl);rcases Nat.lt_or_ge (dR (m.map dF) x) i with h|h
 ·have h1:=rY hr h hz he;cases hq:iF (dF e) x with
  | false=>rfl
  | true =>
   rw [<- jc] at h1;have h2:qK z ⟨x.1,x.2,[],0,aK⟩<0:=uS z e ⟨x.1,x.2,[],0,aK⟩ ((jc z e).1 h1) ((jc e ⟨x.1,x.2,[],0,aK⟩).1 hq);rw [<- jc] at h2;rw [show iF (dF z) x=aM from h2] at h0;cases h0
 ·have e1:i=dR (m.map dF) x:=by omega
  rw [e1,hz] at he;rw [<- aG he];exact h0
theorem rZ (v:Sl) (l:List iT) (m:List En) (t s:dO) (w:aL) (hv:nk w (dN v) l) (hA:eG (lH w) l m) (hr:fV m) (hl:l.length<=1000) :
  aO U 89 #[dN v,pK t,pK s] w fun e w'=>e=Q (.tuple #[L O (dR (m.map dF) (t,s)),aI (gW m t s)])/\Below w.heap.size w w':=by
 obtain⟨so,n,sc⟩:=v;have hn:l.length=n:=gL hv;obtain⟨c,d⟩:=t;obtain⟨g,h⟩:=s;obtain⟨k,hk⟩:∃ k,dR (m.map dF) ((c,d),(g,h))=k:=⟨_,rfl⟩;obtain⟨th,hth⟩:∃ k,gW m (c,d) (g,h)=k:=⟨_,rfl⟩;have hkn:k<=n:=by rw [<- hk,<- hn,hA.len]; simpa using mq (m.map dF) ((c,d),(g,h))
 rw [hk,hth];obtain⟨h0,X,Y,Z⟩:=iZ w #[aj so n sc] #[L O c,L O d] #[L O g,L O h] 27 23 23;have BB:=J h0;have HV:=J (hv.on h0);have HA:=J (hA.mono fun _ _ q=>q.on h0);have X1:=J X;have Y1:=J Y;have Z1:=J Z;have x0:=X.cell 0;simp only [aC,ay] at x0;have HF:=J (show ∀ i,i<n->∀ W,Below (((w.alloc (aB #[aj so n sc] 27)).alloc (aB #[L O c,L O d] 23)).alloc (aB #[L O g,L O h] 23)).heap.size (((w.alloc (aB #[aj so n sc] 27)).alloc (aB #[L O c,L O d] 23)).alloc (aB #[L O g,L O h] 23)) W ->
   aO U 136 (#[L O i]++#[ah (K ⟨w.heap.size,0,ak⟩),ah (K ⟨w.heap.size+1,0,ak⟩),ah (K ⟨w.heap.size+1+1,0,ak⟩)]) W fun e w'=>e=Q (aI ((fun i=>match l[i]? with | some y=>!iF (Ap y) ((c,d),(g,h)) | none=>aM) i))/\Below W.heap.size W w' from fun i hi W hb=>by
  obtain⟨y,hy⟩:∃ y,l[i]?=K y:=⟨_,D (by omega)⟩;refine Oe i _ _ _ so n sc l (c,d) (g,h) y _ W (HV.out.on hb) hn hy ?_ (X1.out.on hb) (Y1.out.on hb) (Z1.out.on hb);simp only [hy])
 have PW:=J (show ∀ i,i<k->(fun i=>match l[i]? with | some y=>!iF (Ap y) ((c,d),(g,h)) | none=>aM) i=aK from fun i hi=>by
  obtain⟨y,hy⟩:∃ y,l[i]?=K y:=⟨_,D (by omega)⟩;obtain⟨e,he,hke,_⟩:=jC HA.out hy;have h1:=kI (m.map dF) ((c,d),(g,h)) i (dF e) (by rw [hk]; exact hi) (by rw [aP,he]; rfl);simp only [hy,hke,h1]
  rfl)
 have PX:=J (show ∀ i,k<=i->i<n->(fun i=>match l[i]? with | some y=>!iF (Ap y) ((c,d),(g,h)) | none=>aM) i=aM from fun i hi hi2=>by
  obtain⟨y,hy⟩:∃ y,l[i]?=K y:=⟨_,D (by omega)⟩;obtain⟨e,he,hke,_⟩:=jC HA.out hy;have h1:=Sb.oG hr ((c,d),(g,h)) (by rw [hk]; exact hi) he;simp only [hy,hke,h1]
  rfl)
 have HK:=J hk;have HT:=J hth;have HN:=J hn;have ln:n<=1000:=by omega
 clear hv hA h0 X Y Z hk hth hl hn hr;go_enter Tryz.func89,Tryz.ntmps89;go_wp2_with fail;generalize ((w.alloc (aB #[aj so n sc] 27)).alloc (aB #[L O c,L O d] 23)).alloc (aB #[L O g,L O h] 23)=W at *;refine (qg 136 #[ah (K ⟨w.heap.size,0,ak⟩),ah (K ⟨w.heap.size+1,0,ak⟩),ah (K ⟨w.heap.size+1+1,0,ak⟩)] Oc n k _ W (by omega) HF.out hkn PW.out PX.out).mono ?_;rintro e1 w1 ⟨rfl,hb⟩;have BN:=J (fun dq osq=>(BB.out.trans (hb.mono BB.out.size)).trans ((below_regrown w1 dq osq).mono (BB.out.trans (hb.mono BB.out.size)).size));have a0:=cell_regrown (show w1.cell? ⟨w.heap.size,0,ak⟩=K (aj so n sc) from (X1.out.on hb).cell 0);have b0:=cell_regrown (show w1.cell? ⟨w.heap.size+1,0,ak⟩=K (L O c) from (Y1.out.on hb).cell 0);have b1:=cell_regrown (show w1.cell? ⟨w.heap.size+1,1,ak⟩=K (L O d) from (Y1.out.on hb).cell 1);have c0:=cell_regrown (show w1.cell? ⟨w.heap.size+1+1,0,ak⟩=K (L O g) from (Z1.out.on hb).cell 0);have c1:=cell_regrown (show w1.cell? ⟨w.heap.size+1+1,1,ak⟩=K (L O h) from (Z1.out.on hb).cell 1);clear x0 HF PW PX;by_cases hkl:k<n
 ·obtain⟨y,hy⟩:∃ y,l[k]?=K y:=⟨_,D (by rw [HN.out]; exact hkl)⟩;obtain⟨p,ix,p0,p1,p2,p3,p4,p5,p6⟩:=uY HV.out rfl HN.out hy hb;have TH:=J (show th=decide (Ap y=((c,d),(g,h))) from by
   obtain⟨e,he,hke,_⟩:=jC HA.out hy;rw [<- HT.out,gW,HK.out,he,hke])
  have g4:decide ((k:Int)<(n:Int))=aM:=by simp; omega
  obtain⟨y1,y2,y3,y4,⟨yo,yn,yc⟩,y6,y7⟩:=y;simp only at p0 p1 p2 p3;clear p4 p5 p6 hb hy;obtain⟨r1,hr1⟩:∃ r,(y1 == c && y2 == d)=r:=⟨_,rfl⟩;obtain⟨r2,hr2⟩:∃ r,(y3 == g && y4 == h)=r:=⟨_,rfl⟩;have e1:=wI y1 y2 c d r1 hr1;have e2:=wI y3 y4 g h r2 hr2;have R:=J (show th=(r1 && r2) from by
   rw [TH.out,<- hr1,<- hr2,Bool.eq_iff_iff];simp only [decide_eq_true_eq,Bool.and_eq_true,beq_iff_eq,Prod.mk.injEq])
  clear hr1 hr2 TH HT;cases r1 <;> cases r2
  all_goals
   go_wp2;refine wp_region_quiet_below (by kernel_rfl) (by kernel_rfl) ?_
   repeat (go_big_quiet_step (fail))
   refine wpQuiet_nil ?_;intro _ hw';obtain⟨⟨dq,osq⟩,hw''⟩:=hw';subst hw'';go_wp2
   go_ret2
   exact⟨by rw [R.out]; rfl,BN.out _ _⟩
 ·have TH:=J (show th=aK from by
   rw [<- HT.out,gW,HK.out,List.getElem?_eq_none (by rw [<- HA.out.len,HN.out]; omega)])
  have g4:decide ((k:Int)<(n:Int))=aK:=by simp; omega
  clear hb HT;go_wp2;refine wp_region_quiet_below (by kernel_rfl) (by kernel_rfl) ?_
  repeat (go_big_quiet_step (fail))
  refine wpQuiet_nil ?_;intro _ hw';obtain⟨⟨dq,osq⟩,hw''⟩:=hw';subst hw'';go_wp2
  go_ret2
  exact⟨by rw [TH.out]; rfl,BN.out _ _⟩
def cutV (v:Sl) (f k:Nat):Sl:=match v with
 | (K a,_,c)=>(K (if c=f then a else a.add (f * 7)),k,c-f)
 | (ak,_,_)=>(ak,0,0)
theorem KX {α:Type} (p:α->Bool):∀ (l:List α) (j:Nat) (y:α),j<(l.takeWhile p).length->l[j]?=K y->p y=aM
 | [],_,_,_,h=>by simp at h
 | a::l,j,y,hj,h=>by
  by_cases ha:p a=aM
  ·rw [au,if_pos ha,aQ] at hj;cases j with
   | zero=>rw [<- aG (show K a=K y from h)]; exact ha
   | succ j=>exact KX p l j y (by omega) (by simpa using h)
  ·rw [au,if_neg ha] at hj;simp at hj
theorem KY {α:Type} (p:α->Bool):∀ (l:List α) (y:α),l[(l.takeWhile p).length]?=K y->p y=aK
 | [],_,h=>by simp at h
 | a::l,y,h=>by
  by_cases ha:p a=aM
  ·rw [au,if_pos ha,aQ] at h;exact KY p l y (by simpa using h)
  ·rw [au,if_neg ha] at h;rw [<- aG (show K a=K y from h)];simpa using ha
theorem Iu (a:aW) (f e len cap:Nat) (h:f<=e) (h6:e<=cap) (w:aL):(Instr.sliceAt 27 (aj (K a) len cap) (K (L O f)) (K (L O e)) ak).run U w=.ok (dN (cutV (K a,len,cap) f (e-f))) w:=by
 have h1:(f:Int)<=(e:Int):=by omega
 have h3:(e:Int)<=cap:=by omega
 obtain⟨i,i1,i2,i3,i4⟩:=lF.info;have Nb:Tryz.prog.info? 67=K i:=i1;have hu':Tryz.prog.underlying 27=K (.slice 67):=lF.hu;have zS:i.size=7:=i3;by_cases he:cap=f
 ·subst he;obtain rfl:e=cap:=by omega
  simp [go_sem,hu',sizeOf,typeInfo,Nb,zS,cutV]
 ·simp [go_sem,hu',sizeOf,typeInfo,Nb,zS,cutV,he,h,h6]
theorem zA {W:aL} {v:Sl} {l:List iT} (h:nk W (dN v) l) (f k:Nat) (hk:f+k<=l.length) :
  (∀ w,(Instr.sliceAt 27 (dN v) (K (L O f)) (K (L O ((f+k:Nat):Int))) ak).run U w=.ok (dN (cutV v f k)) w)/\nk W (dN (cutV v f k)) ((l.drop f).take k):=by
 obtain⟨so,sn,sc⟩:=v;rcases h with⟨rfl,hv⟩|⟨a,cap,hv,h2,h3,h4⟩
 ·obtain⟨rfl,rfl,rfl⟩:so=ak/\sn=0/\sc=0:=by simpa using hv
  obtain⟨rfl,rfl⟩:f=0/\k=0:=by simp at hk; omega
  refine⟨fun w=>?_,Or.inl ⟨rfl,rfl⟩⟩;obtain⟨i,i1,i2,i3,i4⟩:=lF.info;have Nb:Tryz.prog.info? 67=K i:=i1;have hu':Tryz.prog.underlying 27=K (.slice 67):=lF.hu;simp [go_sem,hu',sizeOf,typeInfo,Nb,cutV]
 ·obtain⟨rfl,rfl,rfl⟩:so=K a/\sn=l.length/\sc=cap:=by simpa using hv
  refine⟨fun w=>by have h:=Iu a f (f+k) l.length sc (Nat.le_add_right _ _) (Nat.le_trans hk h2) w; rwa [Nat.add_sub_cancel_left] at h,?_⟩;refine Or.inr ⟨(if sc=f then a else a.add (f * 7)),sc-f,?_,?_,by omega,fun j u hj=>?_⟩
  ·have e:((l.drop f).take k).length=k:=by rw [aD,aF]; omega
   rw [e]
   rfl
  ·rw [aD,aF]; omega
  ·have hlt:=(V.1 hj).1;have hlen:(flat EN ((l.drop f).take k)).length=k * 7:=by
    rw [dz lF,aD,aF];show _ * 7=_;rw [show min k (l.length-f)=k by omega]
   rw [hlen] at hlt;rw [if_neg (by omega),add_add];refine h4 _ u ?_;have e1:flat EN l=flat EN (l.take f)++(flat EN ((l.drop f).take k)++flat EN ((l.drop f).drop k)):=by
    rw [<- eY,aN,<- eY,aN]
   have e2:(flat EN (l.take f)).length=f * 7:=by
    rw [dz lF,aD];show _ * 7=_;rw [show min f l.length=f by omega]
   rw [e1,List.getElem?_append_right (by rw [e2]; omega),e2,show f * 7+j-f * 7=j by omega,List.getElem?_append_left (by rw [hlen]; exact hlt)];exact hj
theorem r9 (m:List En) (t:dO):gy m t+(jW m t).length<=m.length:=by
 have h1:(jW m t).length<=(m.drop (gy m t)).length:=(aA _).length_le;have h2:gy m t<=m.length:=(aA _).length_le;rw [aF] at h1;omega
theorem qh (v:Sl) (l:List iT) (m:List En) (t:dO) (w:aL) (hv:nk w (dN v) l) (hA:eG (lH w) l m) (hr:fV m) (hl:l.length<=1000) :
  aO U 84 #[dN v,pK t] w fun e w'=>e=Q (dN (cutV v (gy m t) (jW m t).length))/\Below w.heap.size w w':=by
 have RI:=r9 m t;have hML:l.length=m.length:=hA.len;obtain⟨f,hf⟩:∃ f,gy m t=f:=⟨_,rfl⟩;obtain⟨k,hk⟩:∃ k,(jW m t).length=k:=⟨_,rfl⟩;rw [hf,hk] at RI ⊢;have RC:=J ((zA hv f k (by omega)).1);obtain⟨so,n,sc⟩:=v;generalize cutV (so,n,sc) f k=z at RC ⊢;obtain⟨z1,z2,z3⟩:=z;have hn:l.length=n:=gL hv;obtain⟨c,d⟩:=t;obtain⟨h0,X,Y⟩:=iO w #[aj so n sc] #[L O c,L O d] 27 23;have BB:=J h0;have HV:=J (hv.on h0);have HA:=J (hA.mono fun _ _ q=>q.on h0);have X1:=J X;have Y1:=J Y;have x0:=X.cell 0;simp only [aC,ay] at x0;have FL:∀ (i:Nat) (e:En),i<f->m[i]?=K e->dJ e.tree (c,d)=aM:=fun i e hi he=>KX (fun e:En=>dJ e.tree (c,d)) m i e (by unfold gy at hf; omega) he;have FH:∀ (i:Nat) (e:En),f<=i->m[i]?=K e->dJ e.tree (c,d)=aK:=fun i e hi he=>by
  refine DC (c,d) hr e ?_;rw [<- uT];unfold gy at hf;rw [hf];exact List.mem_of_getElem? (show (m.drop f)[i-f]?=K e by rw [aH,show f+(i-f)=i by omega]; exact he)
 have BL:=J (show ∀ (i:Nat) (e:En),i<k->m[f+i]?=K e->e.tree=(c,d) from fun i e hi he=>by
  have:=KX (fun e:En=>decide (e.tree=(c,d))) (m.drop f) i e (by unfold jW at hk; rw [hf] at hk; omega) (by rw [aH]; exact he);exact of_decide_eq_true this)
 have BH:=J (show ∀ (e:En),m[f+k]?=K e->e.tree≠(c,d) from fun e he=>by
  have:=KY (fun e:En=>decide (e.tree=(c,d))) (m.drop f) e (by unfold jW at hk; rw [hf] at hk; rw [hk,aH]; exact he);exact of_decide_eq_false this)
 have HF:=J (show ∀ i,i<n->∀ W,Below ((w.alloc (aB #[aj so n sc] 27)).alloc (aB #[L O c,L O d] 23)).heap.size ((w.alloc (aB #[aj so n sc] 27)).alloc (aB #[L O c,L O d] 23)) W ->
   aO U 132 (#[L O i]++#[ah (K ⟨w.heap.size,0,ak⟩),ah (K ⟨w.heap.size+1,0,ak⟩)]) W fun e w'=>e=Q (aI ((fun i=>match l[i]? with | some y=>!dJ (y.1,y.2.1) (c,d) | none=>aM) i))/\Below W.heap.size W w' from fun i hi W hb=>by
  obtain⟨y,hy⟩:∃ y,l[i]?=K y:=⟨_,D (by omega)⟩;refine Og i _ _ so n sc l (c,d) y _ W (HV.out.on hb) hn hy ?_ (X1.out.on hb) (Y1.out.on hb);simp only [hy])
 have PW:=J (show ∀ i,i<f->(fun i=>match l[i]? with | some y=>!dJ (y.1,y.2.1) (c,d) | none=>aM) i=aK from fun i hi=>by
  obtain⟨y,hy⟩:∃ y,l[i]?=K y:=⟨_,D (by omega)⟩;obtain⟨e,he,hke,hx⟩:=jC HA.out hy;have h1:=FL i e hi he;rw [<- hx.1] at h1;simp only [hy,h1]
  rfl)
 have PX:=J (show ∀ i,f<=i->i<n->(fun i=>match l[i]? with | some y=>!dJ (y.1,y.2.1) (c,d) | none=>aM) i=aM from fun i hi hi2=>by
  obtain⟨y,hy⟩:∃ y,l[i]?=K y:=⟨_,D (by omega)⟩;obtain⟨e,he,hke,hx⟩:=jC HA.out hy;have h1:=FH i e hi he;rw [<- hx.1] at h1;simp only [hy,h1]
  rfl)
 have HN:=J hn;have ln:n<=1000:=by omega
 have aa6:f+k<=n:=by omega
 clear hv hA h0 X Y hk hf hl hn hr RI hML FL FH;go_enter Tryz.func84,Tryz.ntmps84;go_wp2_with fail;generalize (w.alloc (aB #[aj so n sc] 27)).alloc (aB #[L O c,L O d] 23)=W at *;refine (qg 132 #[ah (K ⟨w.heap.size,0,ak⟩),ah (K ⟨w.heap.size+1,0,ak⟩)] Od n f _ W (by omega) HF.out (by omega) PW.out PX.out).mono ?_;rintro e1 w1 ⟨rfl,hb⟩;have B1:=J hb;clear x0 HF PW PX hb;go_wp2
 go_loopw [6] (fun i wr=>∃ j:Nat,j<=k/\i=L O ((f+j:Nat):Int)/\Below W.heap.size W wr) (fun i _=>f+k-(intOf i).toNat)
 case atStart=>exact⟨0,Nat.zero_le _,by simp,B1.out⟩
 case round =>
  obtain⟨j,hj,rfl,hbe⟩:=hrel;have BE:=J hbe;have a0:=cell_regrown (show wr.cell? ⟨w.heap.size,0,ak⟩=K (aj so n sc) from (X1.out.on hbe).cell 0);have b0:=cell_regrown (show wr.cell? ⟨w.heap.size+1,0,ak⟩=K (L O c) from (Y1.out.on hbe).cell 0);have b1:=cell_regrown (show wr.cell? ⟨w.heap.size+1,1,ak⟩=K (L O d) from (Y1.out.on hbe).cell 1);have BN:=J (fun dq osq=>BE.out.trans ((below_regrown wr dq osq).mono BE.out.size));clear hbe;by_cases hjk:j<k
  ·obtain⟨y,hy⟩:∃ y,l[f+j]?=K y:=⟨_,D (by rw [HN.out]; omega)⟩;obtain⟨p,ix,p0,p1,p2,p3,p4,p5,p6⟩:=uY HV.out rfl HN.out hy BE.out;obtain⟨e,he,_,hx⟩:=jC HA.out hy;have ht:(y.1,y.2.1)=(c,d):=hx.1.trans (BL.out j e hjk he);have hjn:f+j<n:=by omega
   have g4:decide (((f+j:Nat):Int)<(n:Int))=aM:=by simp; omega
   have hw3:IntKind.i64.wrap (((f+j:Nat):Int)+1)=((f+(j+1):Nat):Int):=by rw [IntWalk.i64_in _ (by omega)]; omega
   obtain⟨y1,y2,y3,y4,⟨yo,yn,yc⟩,y6,y7⟩:=y;obtain⟨rfl,rfl⟩:y1=c/\y2=d:=by simpa using ht
   simp only at p0 p1;have e1:=wI y1 y2 y1 y2 aM (by simp);clear p2 p3 p4 p5 p6 hy he hx ht;generalize hq:f+j=q at *;have HQ:=J hq;clear hq;go_wp2;refine wp_region_quiet_below (by kernel_rfl) (by kernel_rfl) ?_
   repeat (go_big_quiet_step (fail))
   refine wpQuiet_nil ?_;intro _ hw';obtain⟨⟨dq,osq⟩,hw''⟩:=hw';subst hw'';go_wp2
   go_roundw
   case rel=>exact⟨j+1,by omega,by rfl,BN.out _ _⟩
   case measure =>
    have hq:=HQ.out;simp [intOf];omega
  ·obtain rfl:j=k:=by omega
   have TQ:=RC.out;by_cases hjn:f+j<n
   ·obtain⟨y,hy⟩:∃ y,l[f+j]?=K y:=⟨_,D (by rw [HN.out]; omega)⟩;obtain⟨p,ix,p0,p1,p2,p3,p4,p5,p6⟩:=uY HV.out rfl HN.out hy BE.out;obtain⟨e,he,_,hx⟩:=jC HA.out hy;have ht:(y.1,y.2.1)≠(c,d):=fun q=>BH.out e he (hx.1.symm.trans q);have g4:decide (((f+j:Nat):Int)<(n:Int))=aM:=by simp; omega
    obtain⟨y1,y2,y3,y4,⟨yo,yn,yc⟩,y6,y7⟩:=y;simp only at p0 p1;have e1:=wI y1 y2 c d aK (aJ.2 fun h=>ht (by simp at h; rw [h.1,h.2]));clear p2 p3 p4 p5 p6 hy he hx ht;generalize f+j=q at *;go_wp2;refine wp_region_quiet_below (by kernel_rfl) (by kernel_rfl) ?_
    repeat (go_big_quiet_step (fail))
    refine wpQuiet_nil ?_;intro _ hw';obtain⟨⟨dq,osq⟩,hw''⟩:=hw';subst hw'';have a0:=a0 dq osq;go_wp2;go_ret;exact⟨rfl,BB.out.trans ((BN.out _ _).mono BB.out.size)⟩
   ·have g4:decide (((f+j:Nat):Int)<(n:Int))=aK:=by simp; omega
    generalize f+j=q at *;go_wp2;refine wp_region_quiet_below (by kernel_rfl) (by kernel_rfl) ?_
    repeat (go_big_quiet_step (fail))
    refine wpQuiet_nil ?_;intro _ hw';obtain⟨⟨dq,osq⟩,hw''⟩:=hw';subst hw'';have a0:=a0 dq osq;go_wp2;go_ret;exact⟨rfl,BB.out.trans ((BN.out _ _).mono BB.out.size)⟩
end Sb
namespace Bk
open Go.RowKit Go.Sort Rw YtghlpefopidlaaaGreat.Nm Pr
end Bk
end Go.Proofs.YtghlpefopidlaaaGreat
