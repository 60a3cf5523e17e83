/-
  slices.BinarySearchF. Conditions as told.
-/
import Derived.Test.YtghlpefopidlaaaGreatCQ017
import Derived.Deep.LoopGhost
set_option maxRecDepth 100000
set_option maxHeartbeats 64000000
open _root_.Go renaming World->aB,Value->aH,Calls->aI
open Go.Builtin renaming copy_->ay,append_->aG
open Go.Ending renaming returned->aA
open Go.Instr renaming sliceAt->U
open Go.IntKind renaming i64->ah,wrap_i64->aF
open Go.Lib renaming hid->O
open Go.Obj renaming cells->ak
open Go.Proofs.Tryz renaming prog->J,ntmps157->aC,func157->aD
open Go.Value renaming slice->D,int->Z
open _root_.List renaming getElem?_eq_getElem->V
open _root_.Nat renaming le_refl->aj,lt_or_ge->au
open _root_.Option renaming none->K,some->L
namespace Go.Proofs.YtghlpefopidlaaaGreat.Av
open Go.RowKit Go.Sort Rw YtghlpefopidlaaaGreat.Nm Pr Bk
abbrev mF (x:dQ):dQ:=x
theorem Ec {W W1:aB} {v:aH} {l:List dQ} {ao:Option Addr} {n c k:Nat} {x:dQ} (h:uP W v l) (hv:v=D ao n c) (hn:l.length=n) (hk:l[k]?=L x) (hb:Below W.heap.size W W1) :
  ∃ p:Addr,(∀ w,(Instr.indexAt 26 (D ao n c) (Z ah k)).run J w=.ok (.pointer (L p)) w) /\
   (∀ d os,(grow (redrawn W1 d) os).cell? p=L (Z ah x.1))/\(∀ d os,(grow (redrawn W1 d) os).cell? ⟨p.block,p.off+1,K⟩=L (Z ah x.2)):=by
 obtain⟨p,h1,h2⟩:=Rm h hv hn hk;obtain⟨c0,c1⟩:=h2 _ hb;exact⟨p,h1,cell_regrown c0,cell_regrown c1⟩
theorem zM {W:aB} {b:Nat} {c:dQ} (h:cZ W b #[Z ah c.1,Z ah c.2] 23):(∀ d os,(grow (redrawn W d) os).cell? ⟨b,0,K⟩=L (Z ah c.1))/\(∀ d os,(grow (redrawn W d) os).cell? ⟨b,1,K⟩=L (Z ah c.2)) :=
 ⟨cell_regrown (h.cell 0),cell_regrown (h.cell 1)⟩
theorem zN (c d:dQ) (r:Int) (hr:iP c d=r) (w:aB) (k:Nat) (os:Array Obj) :
  aI J 38 #[oJ c,oJ d] (grow (redrawn w k) os) fun e w''=>e=aA (Z ah r)/\∃ p:Regrown,w''=grow (redrawn w p.d) p.os:=by
 subst hr;exact Calls.regrown_of (qE c d _)
theorem H9 (v:aH) (l:List dQ) (c:dQ) (w:aB) (hv:uP w v l) (hr:gQ mF l) (hl:l.length<=900) :
  aI J 105 #[v,oJ c,.func (.func 38) #[] #[]] w fun e w'=>e=aA (.tuple #[Z ah (dM mF l c),.bool (eY mF l c)])/\Below w.heap.size w w':=by
 have HL:=O hv;have HR:=O hr;have BX:=O (dG w #[Z ah c.1,Z ah c.2] 23);have B1:=O ((Below.refl w.heap.size w).alloc (aj _) (ak #[Z ah c.1,Z ah c.2] 23));obtain⟨ao,ac,rfl⟩:=hv.len;obtain⟨n,hn⟩:∃ n,n=l.length:=⟨_,rfl⟩;rw [<- hn] at HL hl ⊢;have HN:=O hn;obtain⟨cnt,hc⟩:∃ k,k=dM mF l c:=⟨_,rfl⟩;obtain⟨th,ht⟩:∃ k,k=eY mF l c:=⟨_,rfl⟩;rw [<- hc,<- ht];have HC:=O hc;have HT:=O ht;clear hv hr hn hc ht;obtain⟨c1,c2⟩:=c;go_enter Tryz.func105,Tryz.ntmps105;go_wp2;generalize w.alloc (ak #[Z ah c1,Z ah c2] 23)=w1 at *
 go_loopg [9,10] n (fun kx s9 s10 wr=>∃ lo hi:Nat,s9=Z ah lo/\s10=Z ah hi/\lo<=hi/\hi<=n/\hi-lo<=kx/\Below w.heap.size w wr/\cZ wr w.heap.size #[Z ah c1,Z ah c2] 23 /\
  (∀ (t:Nat) (y:dQ),t<lo->l[t]?=L y->dB y (c1,c2)=true)/\(∀ (t:Nat) (y:dQ),hi<=t->l[t]?=L y->dB y (c1,c2)=false))
 case atStart=>exact⟨0,n,rfl,rfl,Nat.zero_le _,aj _,by omega,B1.out,BX.out,fun t y h=>by omega,fun t y h1 h2=>by have:=(List.getElem?_eq_some_iff.1 h2).1; have:=HN.out; omega⟩
 case round =>
  clear B1 BX;obtain⟨lo,hi,rfl,rfl,hlh,hin,hg,hb,hx,ha,hz⟩:=hrel;have B:=O hb;have X:=O hx;have AL:=O ha;have ZL:=O hz;clear hb hx ha hz;by_cases hlt:lo<hi
  ·obtain⟨y,hy⟩:∃ y,l[(lo+hi) / 2]?=L y:=⟨_,V (by have:=HN.out; omega)⟩;obtain⟨p,ix,p0,p1⟩:=Ec HL.out rfl HN.out.symm hy B.out;obtain⟨b0,b1⟩:=zM (c:=(c1,c2)) X.out;obtain⟨r,hr⟩:∃ r,iP y (c1,c2)=r:=⟨_,rfl⟩;have C:=zN y (c1,c2) r hr wr;have LE:=O (show decide (r<0)=dB y (c1,c2) by rw [<- hr]; exact sV _ _);have Y:=O hy;clear hy hr;have e23:((lo:Int)+(hi:Int)) / 2=(((lo+hi) / 2:Nat):Int):=by omega
   generalize hm:(lo+hi) / 2=m at *;have BN:=O (fun dq osq=>B.out.trans ((below_regrown wr dq osq).mono B.out.size));have XN:=O (fun dq osq=>X.out.on (below_regrown wr dq osq));obtain⟨y1,y2⟩:=y;simp only at p0 p1 b0 b1 C;by_cases hneg:r<0
   ·have d0:decide (r<0)=true:=by simpa using hneg
    have LT:=O (show dB (y1,y2) (c1,c2)=true by rw [<- LE.out]; exact d0);go_wp2;refine wp_region_quiet_below (by kernel_rfl) (by kernel_rfl) ?_
    repeat (go_big_quiet_step (first | (with_reducible exact C _ _) | exact sZ _ _))
    refine wpQuiet_nil ?_;intro _ hw';obtain⟨⟨dq,osq⟩,hw''⟩:=hw';subst hw'';clear ix p0 p1 b0 b1 C;go_wp2
    go_roundg (hi-(m+1))
    case measure=>omega
    case rel=>exact⟨m+1,hi,by go_num,rfl,by omega,hin,aj _,BN.out _ _,XN.out _ _,fun t z h1 h2=>by
     rcases au t m with h3|h3
     ·exact fB (gY HR.out (by omega) h2 Y.out) LT.out
     ·obtain rfl:t=m:=by omega
      rw [Y.out] at h2;rw [<- Option.some.inj h2];exact LT.out,ZL.out⟩
   ·have d0:decide (r<0)=false:=by simpa using hneg
    have LT:=O (show dB (y1,y2) (c1,c2)=false by rw [<- LE.out]; exact d0);go_wp2;refine wp_region_quiet_below (by kernel_rfl) (by kernel_rfl) ?_
    repeat (go_big_quiet_step (first | (with_reducible exact C _ _) | exact sZ _ _))
    refine wpQuiet_nil ?_;intro _ hw';obtain⟨⟨dq,osq⟩,hw''⟩:=hw';subst hw'';clear ix p0 p1 b0 b1 C;go_wp2
    go_roundg (m-lo)
    case measure=>omega
    case rel=>exact⟨lo,m,rfl,rfl,by omega,by omega,aj _,BN.out _ _,XN.out _ _,AL.out,fun t z h1 h2=>by
     cases h:dB z (c1,c2)
     ·rfl
     ·rcases au m t with h3|h3
      ·have:=fB (gY HR.out h3 Y.out h2) h;rw [LT.out] at this;cases this
      ·obtain rfl:t=m:=by omega
       rw [Y.out] at h2;rw [<- Option.some.inj h2,LT.out] at h;cases h⟩
  ·obtain rfl:hi=lo:=by omega
   have E:=O (sU mF l (c1,c2) hi AL.out (by
    rcases au hi n with h|h
    ·exact Or.inr ⟨_,V (by have:=HN.out; omega),ZL.out hi _ (aj _) (V (by have:=HN.out; omega))⟩
    ·exact Or.inl (by have:=HN.out; omega)))
   by_cases hn:hi<n
   ·obtain⟨y,hy⟩:∃ y,l[hi]?=L y:=⟨_,V (by have:=HN.out; omega)⟩;obtain⟨p,ix,p0,p1⟩:=Ec HL.out rfl HN.out.symm hy B.out;obtain⟨b0,b1⟩:=zM (c:=(c1,c2)) X.out;obtain⟨r,hr⟩:∃ r,iP y (c1,c2)=r:=⟨_,rfl⟩;have C:=zN y (c1,c2) r hr wr;have TH:=O (show th=(r == 0) by
     rw [HT.out,eY,E.out,hy,Bool.eq_iff_iff,beq_iff_eq,<- hr,lT,decide_eq_true_eq])
    have BN:=O (fun dq osq=>B.out.trans ((below_regrown wr dq osq).mono B.out.size));have CE:=O (show cnt=hi by rw [HC.out,E.out]);clear hy hr hlt;have g4:decide ((hi:Int)<(n:Int))=true:=by simp; omega
    obtain⟨y1,y2⟩:=y;simp only at p0 p1 b0 b1 C;go_wp2;refine wp_region_quiet_below (by kernel_rfl) (by kernel_rfl) ?_
    repeat (go_big_quiet_step (first | (with_reducible exact C _ _) | exact sZ _ _))
    refine wpQuiet_nil ?_;intro _ hw';obtain⟨⟨dq,osq⟩,hw''⟩:=hw';subst hw'';clear ix p0 p1 b0 b1 C;go_wp2
    go_ret2
    exact⟨by rw [TH.out,CE.out]; rfl,BN.out _ _⟩
   ·have TH:=O (show th=false by
     rw [HT.out,eY,E.out,List.getElem?_eq_none (by have:=HN.out; omega)])
    have CE:=O (show cnt=hi by rw [HC.out,E.out]);have BN:=O (fun dq osq=>B.out.trans ((below_regrown wr dq osq).mono B.out.size));have g4:decide ((hi:Int)<(n:Int))=false:=by simp; omega
    clear hlt;go_wp2;refine wp_region_quiet_below (by kernel_rfl) (by kernel_rfl) ?_
    repeat (go_big_quiet_step (fail))
    refine wpQuiet_nil ?_;intro _ hw';obtain⟨⟨dq,osq⟩,hw''⟩:=hw';subst hw'';go_wp2
    go_ret2
    exact⟨by rw [TH.out,CE.out]; rfl,BN.out _ _⟩
theorem Ed {W:aB} {b:Nat} {c:iw} (h:cZ W b (gu c).toArray 67):lC W (D (L ⟨b,0,K⟩) 1 1) [c] :=
 Or.inr ⟨⟨b,0,K⟩,1,rfl,by simp,by decide,kH h (by simp [EN])⟩
def qL (B:Nat) (l:List iw) (k:Nat) (c:iw) (vv:aH) (W:aB) (e:Ending) (w':aB):Prop:=∃ v',e=aA v'/\iO w' B v' (l.take k++c::l.drop k)/\Below B W w'/\(∀ j,j<W.heap.size->L j≠vv.ownBlock->w'.heap[j]?=W.heap[j]?)
theorem wH (B:Nat) (v:aH) (l:List iw) (c:iw) (b:Nat) (W:aB) (ho:iO W B v l) (hx:cZ W b (gu c).toArray 67) (hl:l.length<=900) (hB:B<=W.heap.size) :
  aI J 157 #[v,Z ah (l.length:Nat),D (L ⟨b,0,K⟩) 1 1] W (qL B l l.length c v W):=by
 obtain⟨v',w',hr,ho2,hg⟩:=jq jI B ho (Ed hx) (by omega) (by simp) hB 27;have hr:(aG #[27,27] 27 #[v,D (L ⟨b,0,K⟩) 1 1]).run J W=.ok v' w':=hr;have Q:=O (show qL B l l.length c v W (aA v') w' from ⟨v',rfl,by rw [List.take_of_length_le (aj _),List.drop_of_length_le (aj _)]; exact ho2,(Below.refl B W).grown hg hB (fun j hj=>(ho.lt j hj).1),fun j hj hne=>hg.block j hj hne⟩);obtain⟨sx,hs,_⟩:=qw jI (Row.dx ho) l.length (aj _);have hs:∀ w,(U 27 v (L (Z ah l.length)) K K).run J w=.ok sx w:=hs;obtain⟨ao,ac,rfl⟩:=(Row.dx ho).len;clear ho ho2 hg;generalize hn:l.length=n at *;clear hn;go_enter aD,aC;go_wp2_with (first | (at_builtin; refine wpList_append_run rfl _ _ 27 rfl rfl rfl hr ?_) | fail);go_ret;exact Q.out
theorem Ee (w:aB) (g b k la lb cb:Nat) (cur cs:Array aH) (hb:cZ w b cs 67) (hg:cZ w g cur 67) (hne:b≠g) (h0:0<cur.size):(callFunc 181 #[D (L ⟨b,0,K⟩) la 1,D (L ⟨g,k,K⟩) lb cb]).run J w=.ok (.value (.bool false)) w:=by
 rw [run_callFunc_extern Tryz.func181 (by kernel_rfl) (by kernel_rfl) (by kernel_rfl) (e:=Extern.SlicesOverlaps.overlaps #[27,27] #[4]) (by kernel_rfl),
  Lib.run_overlaps_apart w 27 4 67 Tryz.underlying27 7 Tryz.sizeOf67 ⟨b,0,K⟩ ⟨g,k,K⟩ la 1 lb cb hne 67 67 cs.size cur.size hb.shape hg.shape (by omega) (hb.fr 0) (hb.fr _)]
 rfl
theorem rZ (B g n cap:Nat) (cur:Array aH) (l:List iw) (k:Nat) (c:iw) (b:Nat) (W:aB) (hn:n=l.length) (hBg:B<=g) (hg:cZ W g cur 67) (hcm:cap<=maxLen) (hsz:cur.size=cap * 7) (ht:cur.toList.take (n * 7)=flat EN l) (hx:cZ W b (gu c).toArray 67) (hne:b≠g) (hk:k<n) (hroom:n+1<=cap) (hl:n<=900) :
  aI J 157 #[D (L ⟨g,0,K⟩) n cap,Z ah k,D (L ⟨b,0,K⟩) 1 1] W (qL B l k c (D (L ⟨g,0,K⟩) n cap) W):=by
 obtain⟨R1,R2,r1,r2,ow⟩:=jZ (E:=EN) (l:=l) (k:=k) (cap:=cap) (cur:=cur) (cs:=(gu c).toArray) (c:=c) jI (by omega) (by omega) hsz (by rw [<- hn]; exact ht) g b hne;have hov:=fun lb cb=>Ee W g b ((k+1) * 7) 1 lb cb cur (gu c).toArray hx hg hne (by omega);have s0:=eH (E:=EN) jI g k n cap (by omega) (by omega);have s1:=fZ (E:=EN) jI ⟨g,0,K⟩ (n+1) n cap (by omega);have s2:=eH (E:=EN) jI g (k+1) (n+1) cap (by omega) (by omega);have s3:=eH (E:=EN) jI g k (n+1) cap (by omega) (by omega);have q1:=r1 W.drew 3 (n+1-(k+1)) (cap-(k+1)) (n+1-k) (cap-k) hg (by omega);have q2:=r2 (W.drew.setRow g R1) 3 (n+1-k) (cap-k) (cZ.set (show cZ W.drew g cur 67 from hg) R1) (cZ.other (show cZ W.drew b _ 67 from hx) hne R1) rfl (by omega);have Q:=O (show qL B l k c (D (L ⟨g,0,K⟩) n cap) W (aA (D (L ⟨g,0,K⟩) (n+1) cap)) ((W.drew.setRow g R1).setRow g R2) from ⟨_,rfl,by rw [hn]; exact ow _ B hBg hcm (cZ.set (cZ.set (show cZ W.drew g cur 67 from hg) R1) R2),below_setRow (below_setRow (Below.refl B W).drew hBg _) hBg _,fun j hj hne=>(setRow_other _ g j _ (fun e=>hne (by rw [e]; rfl))).trans (setRow_other _ g j _ (fun e=>hne (by rw [e]; rfl)))⟩);clear r1 r2 ow hg ht hx hsz hBg hcm;change ∀ w,(U 27 (D (L ⟨g,0,K⟩) n cap) (L (Z ah k)) K K).run J w=.ok (D (L ⟨g,k * 7,K⟩) (n-k) (cap-k)) w at s0;change ∀ w,(U 27 (D (L ⟨g,0,K⟩) n cap) K (L (Z ah ((n:Int)+1))) K).run J w=.ok (D (L ⟨g,0,K⟩) (n+1) cap) w at s1;change ∀ w,(U 27 (D (L ⟨g,0,K⟩) (n+1) cap) (L (Z ah ((k:Int)+1))) K K).run J w=.ok (D (L ⟨g,(k+1) * 7,K⟩) (n+1-(k+1)) (cap-(k+1))) w at s2;change ∀ w,(U 27 (D (L ⟨g,0,K⟩) (n+1) cap) (L (Z ah k)) K K).run J w=.ok (D (L ⟨g,k * 7,K⟩) (n+1-k) (cap-k)) w at s3;have e1:((k:Int) == (n:Int))=false:=by rw [beq_eq_false_iff_ne]; omega
 have e2:decide ((cap:Int)<(n:Int)+1)=false:=by simp; omega
 change (ay #[27,27] 3 #[D (L ⟨g,(k+1) * 7,K⟩) (n+1-(k+1)) (cap-(k+1)),D (L ⟨g,k * 7,K⟩) (n+1-k) (cap-k)]).run J W.drew=.ok (Z ah ((l.length-k:Nat):Int)) (W.drew.setRow g R1) at q1;change (ay #[27,27] 3 #[D (L ⟨g,k * 7,K⟩) (n+1-k) (cap-k),D (L ⟨b,0,K⟩) 1 1]).run J (W.drew.setRow g R1)=.ok (Z ah 1) ((W.drew.setRow g R1).setRow g R2) at q2;clear hn;go_enter aD,aC;go_wp2_with (first | (simp only [hov]) | fail);clear hov s0 s1 s2 s3;have hw1:IntKind.i64.wrap ((k:Int)+1)=(k:Int)+1:=by rw [aF]; omega
 have hb1:(0:Int)<=(k:Int)+1:=by omega
 have hb0:(k:Int)+1<=(n:Int)+1:=by omega
 have htn:((k:Int)+1).toNat=k+1:=by omega
 have hb2:¬ (cap=k+1):=by omega
 have hb3:(k:Int)<=(n:Int)+1:=by omega
 have hb4:¬ (cap=k):=by omega
 have h81:n+1-(k+1)=n-k:=by omega
 rw [h81] at q1;clear h81
 go_region_law (refine eZ rfl (.tmp 73) (.tmp 76) 27 rfl (v:=D (L ⟨g,(k+1) * 7,K⟩) (n-k) (cap-(k+1))) (xv:=D (L ⟨g,k * 7,K⟩) (n+1-k) (cap-k)) (by simp [Act.eval,Act.put]) (by simp [Act.eval,Act.put]) q1 ?_)
 all_goals simp only [Exit.then]
 all_goals apply_assumption
 clear q1 hw1 hb1 hb0 htn hb2 hb3 hb4;have s3:=eH (E:=EN) jI g k (n+1) cap (by omega) (by omega);change ∀ w,(U 27 (D (L ⟨g,0,K⟩) (n+1) cap) (L (Z ah k)) K K).run J w=.ok (D (L ⟨g,k * 7,K⟩) (n+1-k) (cap-k)) w at s3;go_wp2_with (first | (at_builtin; refine wpList_copy_run rfl _ _ 27 rfl rfl rfl q2 ?_) | fail);go_ret;exact Q.out
theorem uZ (B g n cap:Nat) (cur:Array aH) (l:List iw) (k:Nat) (c:iw) (b:Nat) (W:aB) (hn:n=l.length) (hg:cZ W g cur 67) (hcm:cap<=maxLen) (hnc:n<=cap) (ht:cur.toList.take (n * 7)=flat EN l) (hx:cZ W b (gu c).toArray 67) (hk:k<n) (hroom:cap<n+1) (hl:n<=900) (hB:B<=W.heap.size) :
  aI J 157 #[D (L ⟨g,0,K⟩) n cap,Z ah k,D (L ⟨b,0,K⟩) 1 1] W (qL B l k c (D (L ⟨g,0,K⟩) n cap) W):=by
 have hgw:=hg.lt;have hbw:=hx.lt;obtain⟨G,R1,R2,R3,hG1,hG2,r1,r2,r3,ow⟩:=kZ (E:=EN) (l:=l) (k:=k) (cap:=cap) (cur:=cur) (cs:=(gu c).toArray) (c:=c) jI 3 Tryz.underlying3 (by omega) (by omega) (by omega) (by omega) (by rw [<- hn]; exact ht) W g b hg hbw;unfold maxLen at hcm hG2;have s0:=eH (E:=EN) jI g k n cap (by omega) (by omega);have s1:=fZ (E:=EN) jI ⟨g,0,K⟩ k n cap (by omega);have s2:=eH (E:=EN) jI W.heap.size k (n+1) G (by omega) (by omega);have s3:=eH (E:=EN) jI W.heap.size (k+1) (n+1) G (by omega) (by omega);have a1:=r1 27;have n1:=dG W.drew R1 67;have bl:W.drew.heap.size=W.heap.size:=rfl;rw [bl] at n1;have g1:cZ (W.drew.alloc (ak R1 67)) g cur 67:=cZ.more (show cZ W.drew g cur 67 from hg) _;have x1:cZ (W.drew.alloc (ak R1 67)) b (gu c).toArray 67:=cZ.more (show cZ W.drew b _ 67 from hx) _;have q2:=r2 (W.drew.alloc (ak R1 67)) 3 (n+1-k) (G-k) n1 x1 rfl (by omega);have q3:=r3 ((W.drew.alloc (ak R1 67)).setRow W.heap.size R2).drew 3 (n+1-(k+1)) (G-(k+1)) (n-k) (cap-k) (cZ.set n1 R2) (cZ.other g1 (by omega) R2) (by omega);have Q:=O (show qL B l k c (D (L ⟨g,0,K⟩) n cap) W (aA (D (L ⟨W.heap.size,0,K⟩) (n+1) G)) (((W.drew.alloc (ak R1 67)).setRow W.heap.size R2).drew.setRow W.heap.size R3) from ⟨_,rfl,by rw [hn]; exact ow _ B hB (cZ.set (cZ.set n1 R2) R3),below_setRow (below_setRow ((Below.refl B W).drew.alloc hB _) hB _).drew hB _,fun j hj _=>(setRow_other _ W.heap.size j _ (by omega)).trans ((setRow_other _ W.heap.size j _ (by omega)).trans (Array.getElem?_push_lt hj |>.trans (Array.getElem?_eq_getElem hj).symm))⟩);have l1:l.length+1=n+1:=by rw [hn]
 rw [l1,<- hn] at a1;clear r1 r2 r3 ow hg ht hx g1 x1 n1 bl l1;change ∀ w,(U 27 (D (L ⟨g,0,K⟩) n cap) (L (Z ah k)) K K).run J w=.ok (D (L ⟨g,k * 7,K⟩) (n-k) (cap-k)) w at s0;change ∀ w,(U 27 (D (L ⟨g,0,K⟩) n cap) K (L (Z ah k)) K).run J w=.ok (D (L ⟨g,0,K⟩) k cap) w at s1;change ∀ w,(U 27 (D (L ⟨W.heap.size,0,K⟩) (n+1) G) (L (Z ah k)) K K).run J w=.ok (D (L ⟨W.heap.size,k * 7,K⟩) (n+1-k) (G-k)) w at s2;change ∀ w,(U 27 (D (L ⟨W.heap.size,0,K⟩) (n+1) G) (L (Z ah ((k:Int)+1))) K K).run J w=.ok (D (L ⟨W.heap.size,(k+1) * 7,K⟩) (n+1-(k+1)) (G-(k+1))) w at s3;change (aG #[27,3] 27 #[D (L ⟨g,0,K⟩) k cap,Z ah ((n:Int)+1-k)]).run J W=.ok (D (L ⟨W.heap.size,0,K⟩) (n+1) G) (W.drew.alloc (ak R1 67)) at a1;change (ay #[27,27] 3 #[D (L ⟨W.heap.size,k * 7,K⟩) (n+1-k) (G-k),D (L ⟨b,0,K⟩) 1 1]).run J (W.drew.alloc (ak R1 67))=.ok (Z ah 1) ((W.drew.alloc (ak R1 67)).setRow W.heap.size R2) at q2;change (ay #[27,27] 3 #[D (L ⟨W.heap.size,(k+1) * 7,K⟩) (n+1-(k+1)) (G-(k+1)),D (L ⟨g,k * 7,K⟩) (n-k) (cap-k)]).run J ((W.drew.alloc (ak R1 67)).setRow W.heap.size R2).drew=.ok (Z ah ((l.length-k:Nat):Int)) (((W.drew.alloc (ak R1 67)).setRow W.heap.size R2).drew.setRow W.heap.size R3) at q3;have e1:((k:Int) == (n:Int))=false:=by rw [beq_eq_false_iff_ne]; omega
 have e2:decide ((cap:Int)<(n:Int)+1)=true:=by simp; omega
 have hGn:n+1<=G:=by omega
 clear hn;generalize W.heap.size=N at *;generalize W.drew.alloc (ak R1 67)=W1 at *;generalize W1.setRow N R2=W2 at *;go_enter aD,aC;go_wp2_with (first | (at_builtin; refine fD rfl _ _ 27 3 rfl rfl rfl a1 ?_) | (at_builtin; refine wpList_copy_run rfl _ _ 27 rfl rfl rfl q2 ?_) | fail);clear a1 q2 s0 s1 s2 s3;have hw1:IntKind.i64.wrap ((k:Int)+1)=(k:Int)+1:=by rw [aF]; omega
 have hb1:(0:Int)<=(k:Int)+1:=by omega
 have hb0:(k:Int)+1<=(n:Int)+1:=by omega
 have htn:((k:Int)+1).toNat=k+1:=by omega
 have hb2:¬ (G=k+1):=by omega
 have hb3:(k:Int)<=(n:Int):=by omega
 have hb4:¬ (cap=k):=by omega
 have h81:n+1-(k+1)=n-k:=by omega
 rw [h81] at q3;clear h81
 go_region_law (refine eZ rfl (.tmp 50) (.tmp 53) 27 rfl (v:=D (L ⟨N,(k+1) * 7,K⟩) (n-k) (G-(k+1))) (xv:=D (L ⟨g,k * 7,K⟩) (n-k) (cap-k)) (by simp [Act.eval,Act.put]) (by simp [Act.eval,Act.put]) q3 ?_)
 all_goals simp only [Exit.then]
 all_goals apply_assumption
 go_wp2;go_ret;exact Q.out
theorem pR (B:Nat) (v:aH) (l:List iw) (k:Nat) (c:iw) (b:Nat) (W:aB) (ho:iO W B v l) (hx:cZ W b (gu c).toArray 67) (hne:v.ownBlock≠L b) (hk:k<=l.length) (hl:l.length<=900) (hB:B<=W.heap.size) :
  aI J 157 #[v,Z ah k,D (L ⟨b,0,K⟩) 1 1] W (qL B l k c v W):=by
 rcases au k l.length with h|h
 ·rcases dY ho with⟨_,h2⟩|⟨g,cap,cur,rfl,h1,h2,h3,h4,h5,h6⟩
  ·rw [h2] at h; simp at h
  ·rcases au cap (l.length+1) with h7|h7
   ·exact uZ B g _ cap cur l k c b W rfl h2 h4 h3 h6 hx h h7 hl hB
   ·exact rZ B g _ cap cur l k c b W rfl h1 h2 h4 h5 h6 hx (fun e=>hne (by simp [Value.ownBlock,e])) h h7 hl
 ·obtain rfl:k=l.length:=by omega
  exact wH B v l c b W ho hx hl hB
end Go.Proofs.YtghlpefopidlaaaGreat.Av
