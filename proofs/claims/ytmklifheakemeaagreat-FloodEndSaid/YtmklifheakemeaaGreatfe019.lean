/-
  slices.BinarySearchF. Conditions as told.
-/
import Derived.Test.YtmklifheakemeaaGreatfe006
import Derived.Deep.LoopGhost
import Derived.Test.YtmklifheakemeaaGreatfe001
import Derived.Test.YtmklifheakemeaaGreatfe018
import Derived.Deep.RegionWith
set_option maxRecDepth 100000
set_option maxHeartbeats 64000000
open _root_.Bool renaming false->aL,true->aX
open _root_.Go renaming World->aB,Value->aK,Calls->aM
open Go.Builtin renaming copy_->aJ
open Go.Ending renaming returned->aC
open Go.Instr renaming sliceAt->au,indexAt->aV
open Go.IntKind renaming i64->ah,wrap_i64->aS
open Go.Lib renaming hid->D
open Go.Obj renaming cells->aA
open Go.Op renaming bytesLess->aF
open Go.Proofs.Tryz renaming prog->O,ntmps180->aN,ntmps158->aO,func180->aQ,func158->aR
open Go.RowKit.Below renaming refl->aD
open Go.Value renaming slice->J,int->Z,string->aj,pointer->aU,bool->aY
open Go.World.ownsRow renaming stored->ay,cellAt->aW
open _root_.List renaming length_map->ak,getElem?_eq_some_iff->aG,getElem?_map->aH,getElem?_eq_getElem->aI,length_set->aT
open _root_.Nat renaming le_refl->V,lt_or_ge->aP
open _root_.Option renaming none->L,some->U
namespace Go.Proofs.YtmklifheakemeaaGreat.Pr
open Go.RowKit Go.Sort Pu Rw Va
theorem K8 (a b:ByteArray) (w:aB):aM O 194 #[aj a,aj b] w fun e w'=>e=aC (Z ah (FU a b))/\w'=w:=by
 go_enter Tryz.func194,Tryz.ntmps194;go_wp2_with fail;rw [run_callFunc_extern Tryz.func198 (by kernel_rfl) (by kernel_rfl) (by kernel_rfl) (e:=Extern.BytealgCompare.compare) (by kernel_rfl),Lib.run_compareString];simp only [Result.andThen];rw [Oper.upon_value];go_wp2;go_ret;exact⟨rfl,rfl⟩
theorem pX (a b:ByteArray) (w:aB):aM O 186 #[aj a,aj b] w fun e w'=>e=aC (Z ah (FU a b))/\w'=w:=by
 go_enter Tryz.func186,Tryz.ntmps186;go_wp2_with fail;refine (K8 a b w).mono ?_;rintro e w' ⟨rfl,rfl⟩;go_wp2;go_ret;exact⟨rfl,rfl⟩
theorem K9 (c d:C5) (w:aB):aM O 179 #[cv c,cv d] w fun e w'=>e=aC (Z ah (FU c.1 d.1))/\Below w.heap.size w w':=by
 go_enter Tryz.func179,Tryz.ntmps179;go_wp2_with fail;refine (pX c.1 d.1 _).mono ?_;rintro e w' ⟨rfl,rfl⟩;go_wp2;go_ret;exact⟨rfl,((aD w.heap.size w).alloc (V _) _).alloc (by simp) _⟩
theorem D9 (c d:C5) (r:Int) (hr:FU c.1 d.1=r) (w:aB) (k:Nat) (os:Array Obj) :
  aM O 179 #[cv c,cv d] (grow (redrawn w k) os) fun e w''=>e=aC (Z ah r)/\∃ p:Regrown,w''=grow (redrawn w p.d) p.os:=by
 subst hr;exact Calls.regrown_of (K9 c d _)
theorem mZ {W W1:aB} {v:aK} {l:List C5} {ao:Option Addr} {n c k:Nat} {x:C5} (h:fI W v l) (hv:v=J ao n c) (hn:l.length=n) (hk:l[k]?=U x) (hb:Below W.heap.size W W1) :
  ∃ p:Addr,(∀ w,(aV 32 (J ao n c) (Z ah k)).run O w=.ok (aU (U p)) w) /\
   (∀ d os,(grow (redrawn W1 d) os).cell? p=U (aj x.1))/\(∀ d os,(grow (redrawn W1 d) os).cell? ⟨p.block,p.off+1,L⟩=U (Z ah x.2.1))/\(∀ d os,(grow (redrawn W1 d) os).cell? ⟨p.block,p.off+2,L⟩=U (Z ah x.2.2.1))/\(∀ d os,(grow (redrawn W1 d) os).cell? ⟨p.block,p.off+3,L⟩=U (Z ah x.2.2.2.1))/\(∀ d os,(grow (redrawn W1 d) os).cell? ⟨p.block,p.off+4,L⟩=U (aj x.2.2.2.2)):=by
 obtain⟨p,h1,h2⟩:=XT h hv hn hk;obtain⟨c0,c1,c2,c3,c4⟩:=h2 _ hb;exact⟨p,h1,cell_regrown c0,cell_regrown c1,cell_regrown c2,cell_regrown c3,cell_regrown c4⟩
theorem nI {W:aB} {b:Nat} {c:C5} (h:dK W b (cells5 c).toArray 70):(∀ d os,(grow (redrawn W d) os).cell? ⟨b,0,L⟩=U (aj c.1))/\(∀ d os,(grow (redrawn W d) os).cell? ⟨b,1,L⟩=U (Z ah c.2.1))/\(∀ d os,(grow (redrawn W d) os).cell? ⟨b,2,L⟩=U (Z ah c.2.2.1))/\(∀ d os,(grow (redrawn W d) os).cell? ⟨b,3,L⟩=U (Z ah c.2.2.2.1))/\(∀ d os,(grow (redrawn W d) os).cell? ⟨b,4,L⟩=U (aj c.2.2.2.2)) :=
 ⟨cell_regrown (h.cell 0),cell_regrown (h.cell 1),cell_regrown (h.cell 2),cell_regrown (h.cell 3),cell_regrown (h.cell 4)⟩
theorem Tz (v:aK) (l:List Cn) (c:Cn) (w:aB) (hv:fI w v (l.map r5)) (hr:jN l) (hl:l.length<=100) :
  aM O 178 #[v,cv (r5 c),.func (.func 179) #[] #[]] w fun e w'=>e=aC (.tuple #[Z ah (jW l c.1),aY (kC l c.1)])/\Below w.heap.size w w':=by
 have HL:=D hv;have HR:=D hr;have LN:=D (show (l.map r5).length=l.length from ak ..);have BX:=D (dJ w (cells5 (r5 c)).toArray 70);have B1:=D ((aD w.heap.size w).alloc (V _) (aA (cells5 (r5 c)).toArray 70));obtain⟨ao,ac,rfl⟩:=hv.len;rw [ak] at HL ⊢;obtain⟨n,hn⟩:∃ n,n=l.length:=⟨_,rfl⟩;rw [<- hn] at HL hl ⊢;have HN:=D hn;obtain⟨cnt,hc⟩:∃ k,k=jW l c.1:=⟨_,rfl⟩;obtain⟨th,ht⟩:∃ k,k=kC l c.1:=⟨_,rfl⟩;rw [<- hc,<- ht];have HC:=D hc;have HT:=D ht;clear hv hr hn hc ht;go_enter Tryz.func178,Tryz.ntmps178;go_wp2;change Code.wp _ _ _ _ (w.alloc (aA (cells5 (r5 c)).toArray 70));generalize w.alloc (aA (cells5 (r5 c)).toArray 70)=w1 at *
 go_loopg [9,10] n (fun kx s9 s10 wr=>∃ lo hi:Nat,s9=Z ah lo/\s10=Z ah hi/\lo<=hi/\hi<=n/\hi-lo<=kx/\Below w.heap.size w wr/\dK wr w.heap.size (cells5 (r5 c)).toArray 70 /\
  (∀ (t:Nat) (y:Cn),t<lo->l[t]?=U y->aF y.1.toList c.1.toList=aX)/\(∀ (t:Nat) (y:Cn),hi<=t->l[t]?=U y->aF y.1.toList c.1.toList=aL))
 case atStart=>exact⟨0,n,rfl,rfl,Nat.zero_le _,V _,by omega,B1.out,BX.out,fun t y h=>by omega,fun t y h1 h2=>by have:=(aG.1 h2).1; have:=HN.out; omega⟩
 case round =>
  clear B1 BX;obtain⟨lo,hi,rfl,rfl,hlh,hin,hg,hb,hx,ha,hz⟩:=hrel;have B:=D hb;have X:=D hx;have AL:=D ha;have ZL:=D hz;clear hb hx ha hz;by_cases hlt:lo<hi
  ·obtain⟨y,hy⟩:∃ y,l[(lo+hi) / 2]?=U y:=⟨_,aI (by have:=HN.out; omega)⟩;obtain⟨p,ix,p0,p1,p2,p3,p4⟩:=mZ (x:=r5 y) HL.out rfl (LN.out.trans HN.out.symm) (by rw [aH,hy]; rfl) B.out;obtain⟨b0,b1,b2,b3,b4⟩:=nI X.out;obtain⟨r,hr⟩:∃ r,FU y.1 c.1=r:=⟨_,rfl⟩;have C:=D9 (r5 y) (r5 c) r hr wr;have LE:=D (show decide (r<0)=aF y.1.toList c.1.toList by rw [<- hr]; exact PD _ _);have Y:=D hy;simp only [r5] at p0 p1 p2 p3 p4 b0 b1 b2 b3 b4 C ⊢;clear hy hr;have e23:((lo:Int)+(hi:Int)) / 2=(((lo+hi) / 2:Nat):Int):=by omega
   generalize hm:(lo+hi) / 2=m at *;have BN:=D (fun dq osq=>B.out.trans ((below_regrown wr dq osq).mono B.out.size));have XN:=D (fun dq osq=>X.out.on (below_regrown wr dq osq));by_cases hneg:r<0
   ·have d0:decide (r<0)=aX:=by simpa using hneg
    have LT:=D (show aF y.1.toList c.1.toList=aX by rw [<- LE.out]; exact d0);go_wp2;refine wp_region_quiet_below (by kernel_rfl) (by kernel_rfl) ?_
    repeat (go_big_quiet_step (first | (with_reducible exact C _ _) | exact sZ _ _))
    refine wpQuiet_nil ?_;intro _ hw';obtain⟨⟨dq,osq⟩,hw''⟩:=hw';subst hw'';clear ix p0 p1 p2 p3 p4 b0 b1 b2 b3 b4 C;go_wp2
    go_roundg (hi-(m+1))
    case measure=>omega
    case rel=>exact⟨m+1,hi,by go_num,rfl,by omega,hin,V _,BN.out _ _,XN.out _ _,fun t z h1 h2=>by
     rcases aP t m with h3|h3
     ·exact Dz HR.out (by omega) h2 Y.out LT.out
     ·obtain rfl:t=m:=by omega
      rw [Y.out] at h2;rw [<- Option.some.inj h2];exact LT.out,ZL.out⟩
   ·have d0:decide (r<0)=aL:=by simpa using hneg
    have LT:=D (show aF y.1.toList c.1.toList=aL by rw [<- LE.out]; exact d0);go_wp2;refine wp_region_quiet_below (by kernel_rfl) (by kernel_rfl) ?_
    repeat (go_big_quiet_step (first | (with_reducible exact C _ _) | exact sZ _ _))
    refine wpQuiet_nil ?_;intro _ hw';obtain⟨⟨dq,osq⟩,hw''⟩:=hw';subst hw'';clear ix p0 p1 p2 p3 p4 b0 b1 b2 b3 b4 C;go_wp2
    go_roundg (m-lo)
    case measure=>omega
    case rel=>exact⟨lo,m,rfl,rfl,by omega,by omega,V _,BN.out _ _,XN.out _ _,AL.out,fun t z h1 h2=>by
     cases h:aF z.1.toList c.1.toList
     ·rfl
     ·have:=Dz HR.out h1 Y.out h2 h;rw [LT.out] at this;cases this⟩
  ·obtain rfl:hi=lo:=by omega
   have E:=D (Na l c.1 hi (by have:=HN.out; omega) AL.out (fun z hz=>ZL.out hi z (V _) hz));by_cases hn:hi<n
   ·obtain⟨y,hy⟩:∃ y,l[hi]?=U y:=⟨_,aI (by have:=HN.out; omega)⟩;obtain⟨p,ix,p0,p1,p2,p3,p4⟩:=mZ (x:=r5 y) HL.out rfl (LN.out.trans HN.out.symm) (by rw [aH,hy]; rfl) B.out;obtain⟨b0,b1,b2,b3,b4⟩:=nI X.out;obtain⟨r,hr⟩:∃ r,FU y.1 c.1=r:=⟨_,rfl⟩;have C:=D9 (r5 y) (r5 c) r hr wr;have TH:=D (show th=(r == 0) by
     rw [HT.out,kC,E.out,hy,Bool.eq_iff_iff,beq_iff_eq,<- hr,PG,decide_eq_true_eq])
    simp only [r5] at p0 p1 p2 p3 p4 b0 b1 b2 b3 b4 C ⊢;have BN:=D (fun dq osq=>B.out.trans ((below_regrown wr dq osq).mono B.out.size));have CE:=D (show cnt=hi by rw [HC.out,E.out]);clear hy hr hlt;have g4:decide ((hi:Int)<(n:Int))=aX:=by simp; omega
    go_wp2;refine wp_region_quiet_below (by kernel_rfl) (by kernel_rfl) ?_
    repeat (go_big_quiet_step (first | (with_reducible exact C _ _) | exact sZ _ _))
    refine wpQuiet_nil ?_;intro _ hw';obtain⟨⟨dq,osq⟩,hw''⟩:=hw';subst hw'';clear ix p0 p1 p2 p3 p4 b0 b1 b2 b3 b4 C;go_wp2
    go_ret2
    exact⟨by rw [TH.out,CE.out]; rfl,BN.out _ _⟩
   ·have TH:=D (show th=aL by
     rw [HT.out,kC,E.out,List.getElem?_eq_none (by have:=HN.out; omega)])
    have CE:=D (show cnt=hi by rw [HC.out,E.out]);have BN:=D (fun dq osq=>B.out.trans ((below_regrown wr dq osq).mono B.out.size));have g4:decide ((hi:Int)<(n:Int))=aL:=by simp; omega
    clear hlt;go_wp2;refine wp_region_quiet_below (by kernel_rfl) (by kernel_rfl) ?_
    repeat (go_big_quiet_step (first | (with_reducible exact C _ _) | exact sZ _ _))
    refine wpQuiet_nil ?_;intro _ hw';obtain⟨⟨dq,osq⟩,hw''⟩:=hw';subst hw'';go_wp2
    go_ret2
    exact⟨by rw [TH.out,CE.out]; rfl,BN.out _ _⟩
theorem YG {W:aB} {b:Nat} {c:C5} (h:dK W b (cells5 c).toArray 70):fI W (J (U ⟨b,0,L⟩) 1 1) [c] :=
 Or.inr ⟨⟨b,0,L⟩,1,rfl,by simp,by decide,uD h (by simp [EC])⟩
def La (B:Nat) (l:List C5) (k:Nat) (c:C5) (W:aB) (e:Ending) (w':aB):Prop:=∃ v',e=aC v'/\gT w' B v' (l.take k++c::l.drop k)/\Below B W w'
theorem Lb (B:Nat) (v:aK) (l:List C5) (c:C5) (b:Nat) (W:aB) (ho:gT W B v l) (hx:dK W b (cells5 c).toArray 70) (hl:l.length<=100) (hB:B<=W.heap.size) :
  aM O 180 #[v,Z ah (l.length:Nat),J (U ⟨b,0,L⟩) 1 1] W (La B l l.length c W):=by
 obtain⟨v',w',hr,ho2,hg⟩:=Da B ho (YG hx) (by omega) (by simp) hB;have Q:=D (show La B l l.length c W (aC v') w' from ⟨v',rfl,by rw [List.take_of_length_le (V _),List.drop_of_length_le (V _)]; exact ho2,(aD B W).grown hg hB (fun j hj=>(ho.lt j hj).1)⟩);obtain⟨sx,hs,_⟩:=hiC (Row.dH ho) l.length (V _);obtain⟨ao,ac,rfl⟩:=(Row.dH ho).len;clear ho ho2 hg;generalize hn:l.length=n at *;clear hn;go_enter aQ,aN;go_wp2_with (first | (at_builtin; refine wpList_append_run rfl _ _ 32 rfl rfl rfl hr ?_) | fail);go_ret;exact Q.out
theorem YH (w:aB) (g b k la lb cb:Nat) (cur cs:Array aK) (hb:dK w b cs 70) (hg:dK w g cur 70) (hne:b≠g) (h0:0<cur.size):(callFunc 187 #[J (U ⟨b,0,L⟩) la 1,J (U ⟨g,k,L⟩) lb cb]).run O w=.ok (.value (aY aL)) w:=by
 rw [run_callFunc_extern Tryz.func187 (by kernel_rfl) (by kernel_rfl) (by kernel_rfl) (e:=Extern.SlicesOverlaps.overlaps #[32,32] #[4]) (by kernel_rfl),
  Lib.run_overlaps_apart w 32 4 70 Tryz.underlying32 5 Tryz.sizeOf70 ⟨b,0,L⟩ ⟨g,k,L⟩ la 1 lb cb hne 70 70 cs.size cur.size hb.shape hg.shape (by omega) (hb.fr 0) (hb.fr _)]
 rfl
theorem Gd (B g n cap:Nat) (cur:Array aK) (l:List C5) (k:Nat) (c:C5) (b:Nat) (W:aB) (hn:n=l.length) (hBg:B<=g) (hg:dK W g cur 70) (hcm:cap<=maxLen) (hsz:cur.size=cap * 5) (ht:cur.toList.take (n * 5)=flat EC l) (hx:dK W b (cells5 c).toArray 70) (hne:b≠g) (hk:k<n) (hroom:n+1<=cap) (hl:n<=100) :
  aM O 180 #[J (U ⟨g,0,L⟩) n cap,Z ah k,J (U ⟨b,0,L⟩) 1 1] W (La B l k c W):=by
 obtain⟨R1,R2,r1,r2,ow⟩:=uE (E:=EC) (l:=l) (k:=k) (cap:=cap) (cur:=cur) (cs:=(cells5 c).toArray) (c:=c) uW (by omega) (by omega) hsz (by rw [<- hn]; exact ht) g b hne;have hov:=fun lb cb=>YH W g b ((k+1) * 5) 1 lb cb cur (cells5 c).toArray hx hg hne (by omega);have s0:=gX (E:=EC) uW g k n cap (by omega) (by omega);have s1:=kE (E:=EC) uW ⟨g,0,L⟩ (n+1) n cap (by omega);have s2:=gX (E:=EC) uW g (k+1) (n+1) cap (by omega) (by omega);have s3:=gX (E:=EC) uW g k (n+1) cap (by omega) (by omega);have q1:=r1 W.drew 3 (n+1-(k+1)) (cap-(k+1)) (n+1-k) (cap-k) hg (by omega);have q2:=r2 (W.drew.setRow g R1) 3 (n+1-k) (cap-k) (dK.set (show dK W.drew g cur 70 from hg) R1) (dK.other (show dK W.drew b _ 70 from hx) hne R1) rfl (by omega);have Q:=D (show La B l k c W (aC (J (U ⟨g,0,L⟩) (n+1) cap)) ((W.drew.setRow g R1).setRow g R2) from ⟨_,rfl,by rw [hn]; exact ow _ B hBg hcm (dK.set (dK.set (show dK W.drew g cur 70 from hg) R1) R2),below_setRow (below_setRow (aD B W).drew hBg _) hBg _⟩);clear r1 r2 ow hg ht hx hsz hBg hcm;change ∀ w,(au 32 (J (U ⟨g,0,L⟩) n cap) (U (Z ah k)) L L).run O w=.ok (J (U ⟨g,k * 5,L⟩) (n-k) (cap-k)) w at s0;change ∀ w,(au 32 (J (U ⟨g,0,L⟩) n cap) L (U (Z ah ((n:Int)+1))) L).run O w=.ok (J (U ⟨g,0,L⟩) (n+1) cap) w at s1;change ∀ w,(au 32 (J (U ⟨g,0,L⟩) (n+1) cap) (U (Z ah ((k:Int)+1))) L L).run O w=.ok (J (U ⟨g,(k+1) * 5,L⟩) (n+1-(k+1)) (cap-(k+1))) w at s2;change ∀ w,(au 32 (J (U ⟨g,0,L⟩) (n+1) cap) (U (Z ah k)) L L).run O w=.ok (J (U ⟨g,k * 5,L⟩) (n+1-k) (cap-k)) w at s3;have e1:((k:Int) == (n:Int))=aL:=by rw [beq_eq_false_iff_ne]; omega
 have e2:decide ((cap:Int)<(n:Int)+1)=aL:=by simp; omega
 change (aJ #[32,32] 3 #[J (U ⟨g,(k+1) * 5,L⟩) (n+1-(k+1)) (cap-(k+1)),J (U ⟨g,k * 5,L⟩) (n+1-k) (cap-k)]).run O W.drew=.ok (Z ah ((l.length-k:Nat):Int)) (W.drew.setRow g R1) at q1;change (aJ #[32,32] 3 #[J (U ⟨g,k * 5,L⟩) (n+1-k) (cap-k),J (U ⟨b,0,L⟩) 1 1]).run O (W.drew.setRow g R1)=.ok (Z ah 1) ((W.drew.setRow g R1).setRow g R2) at q2;clear hn;go_enter aQ,aN;go_wp2_with (first | (simp only [hov]) | fail);clear hov s0 s1 s2 s3;have hw1:IntKind.i64.wrap ((k:Int)+1)=(k:Int)+1:=by rw [aS]; omega
 have hb1:(0:Int)<=(k:Int)+1:=by omega
 have hb0:(k:Int)+1<=(n:Int)+1:=by omega
 have htn:((k:Int)+1).toNat=k+1:=by omega
 have hb2:¬ (cap=k+1):=by omega
 have hb3:(k:Int)<=(n:Int)+1:=by omega
 have hb4:¬ (cap=k):=by omega
 have h81:n+1-(k+1)=n-k:=by omega
 rw [h81] at q1;clear h81
 go_region_law (refine iW rfl (.tmp 73) (.tmp 76) 32 rfl (v:=J (U ⟨g,(k+1) * 5,L⟩) (n-k) (cap-(k+1))) (xv:=J (U ⟨g,k * 5,L⟩) (n+1-k) (cap-k)) (by simp [Act.eval,Act.put]) (by simp [Act.eval,Act.put]) q1 ?_)
 all_goals simp only [Exit.then]
 all_goals apply_assumption
 clear q1 hw1 hb1 hb0 htn hb2 hb3 hb4;have s3:=gX (E:=EC) uW g k (n+1) cap (by omega) (by omega);change ∀ w,(au 32 (J (U ⟨g,0,L⟩) (n+1) cap) (U (Z ah k)) L L).run O w=.ok (J (U ⟨g,k * 5,L⟩) (n+1-k) (cap-k)) w at s3;go_wp2_with (first | (at_builtin; refine wpList_copy_run rfl _ _ 32 rfl rfl rfl q2 ?_) | fail);go_ret;exact Q.out
theorem IE (B g n cap:Nat) (cur:Array aK) (l:List C5) (k:Nat) (c:C5) (b:Nat) (W:aB) (hn:n=l.length) (hg:dK W g cur 70) (hcm:cap<=maxLen) (hnc:n<=cap) (ht:cur.toList.take (n * 5)=flat EC l) (hx:dK W b (cells5 c).toArray 70) (hk:k<n) (hroom:cap<n+1) (hl:n<=100) (hB:B<=W.heap.size) :
  aM O 180 #[J (U ⟨g,0,L⟩) n cap,Z ah k,J (U ⟨b,0,L⟩) 1 1] W (La B l k c W):=by
 have hgw:=hg.lt;have hbw:=hx.lt;obtain⟨G,R1,R2,R3,hG1,hG2,r1,r2,r3,ow⟩:=wF (E:=EC) (l:=l) (k:=k) (cap:=cap) (cur:=cur) (cs:=(cells5 c).toArray) (c:=c) uW 3 Tryz.underlying3 (by omega) (by omega) (by omega) (by omega) (by rw [<- hn]; exact ht) W g b hg hbw;unfold maxLen at hcm hG2;have s0:=gX (E:=EC) uW g k n cap (by omega) (by omega);have s1:=kE (E:=EC) uW ⟨g,0,L⟩ k n cap (by omega);have s2:=gX (E:=EC) uW W.heap.size k (n+1) G (by omega) (by omega);have s3:=gX (E:=EC) uW W.heap.size (k+1) (n+1) G (by omega) (by omega);have a1:=r1 32;have n1:=dJ W.drew R1 70;have bl:W.drew.heap.size=W.heap.size:=rfl;rw [bl] at n1;have g1:dK (W.drew.alloc (aA R1 70)) g cur 70:=dK.more (show dK W.drew g cur 70 from hg) _;have x1:dK (W.drew.alloc (aA R1 70)) b (cells5 c).toArray 70:=dK.more (show dK W.drew b _ 70 from hx) _;have q2:=r2 (W.drew.alloc (aA R1 70)) 3 (n+1-k) (G-k) n1 x1 rfl (by omega);have q3:=r3 ((W.drew.alloc (aA R1 70)).setRow W.heap.size R2).drew 3 (n+1-(k+1)) (G-(k+1)) (n-k) (cap-k) (dK.set n1 R2) (dK.other g1 (by omega) R2) (by omega);have Q:=D (show La B l k c W (aC (J (U ⟨W.heap.size,0,L⟩) (n+1) G)) (((W.drew.alloc (aA R1 70)).setRow W.heap.size R2).drew.setRow W.heap.size R3) from ⟨_,rfl,by rw [hn]; exact ow _ B hB (dK.set (dK.set n1 R2) R3),below_setRow (below_setRow ((aD B W).drew.alloc hB _) hB _).drew hB _⟩);have l1:l.length+1=n+1:=by rw [hn]
 rw [l1,<- hn] at a1;clear r1 r2 r3 ow hg ht hx g1 x1 n1 bl l1;change ∀ w,(au 32 (J (U ⟨g,0,L⟩) n cap) (U (Z ah k)) L L).run O w=.ok (J (U ⟨g,k * 5,L⟩) (n-k) (cap-k)) w at s0;change ∀ w,(au 32 (J (U ⟨g,0,L⟩) n cap) L (U (Z ah k)) L).run O w=.ok (J (U ⟨g,0,L⟩) k cap) w at s1;change ∀ w,(au 32 (J (U ⟨W.heap.size,0,L⟩) (n+1) G) (U (Z ah k)) L L).run O w=.ok (J (U ⟨W.heap.size,k * 5,L⟩) (n+1-k) (G-k)) w at s2;change ∀ w,(au 32 (J (U ⟨W.heap.size,0,L⟩) (n+1) G) (U (Z ah ((k:Int)+1))) L L).run O w=.ok (J (U ⟨W.heap.size,(k+1) * 5,L⟩) (n+1-(k+1)) (G-(k+1))) w at s3;change (Builtin.append_ #[32,3] 32 #[J (U ⟨g,0,L⟩) k cap,Z ah ((n:Int)+1-k)]).run O W=.ok (J (U ⟨W.heap.size,0,L⟩) (n+1) G) (W.drew.alloc (aA R1 70)) at a1;change (aJ #[32,32] 3 #[J (U ⟨W.heap.size,k * 5,L⟩) (n+1-k) (G-k),J (U ⟨b,0,L⟩) 1 1]).run O (W.drew.alloc (aA R1 70))=.ok (Z ah 1) ((W.drew.alloc (aA R1 70)).setRow W.heap.size R2) at q2;change (aJ #[32,32] 3 #[J (U ⟨W.heap.size,(k+1) * 5,L⟩) (n+1-(k+1)) (G-(k+1)),J (U ⟨g,k * 5,L⟩) (n-k) (cap-k)]).run O ((W.drew.alloc (aA R1 70)).setRow W.heap.size R2).drew=.ok (Z ah ((l.length-k:Nat):Int)) (((W.drew.alloc (aA R1 70)).setRow W.heap.size R2).drew.setRow W.heap.size R3) at q3;have e1:((k:Int) == (n:Int))=aL:=by rw [beq_eq_false_iff_ne]; omega
 have e2:decide ((cap:Int)<(n:Int)+1)=aX:=by simp; omega
 have hGn:n+1<=G:=by omega
 clear hn;generalize W.heap.size=N at *;generalize W.drew.alloc (aA R1 70)=W1 at *;generalize W1.setRow N R2=W2 at *;go_enter aQ,aN;go_wp2_with (first | (at_builtin; refine je rfl _ _ 32 3 rfl rfl rfl a1 ?_) | (at_builtin; refine wpList_copy_run rfl _ _ 32 rfl rfl rfl q2 ?_) | fail);clear a1 q2 s0 s1 s2 s3;have hw1:IntKind.i64.wrap ((k:Int)+1)=(k:Int)+1:=by rw [aS]; omega
 have hb1:(0:Int)<=(k:Int)+1:=by omega
 have hb0:(k:Int)+1<=(n:Int)+1:=by omega
 have htn:((k:Int)+1).toNat=k+1:=by omega
 have hb2:¬ (G=k+1):=by omega
 have hb3:(k:Int)<=(n:Int):=by omega
 have hb4:¬ (cap=k):=by omega
 have h81:n+1-(k+1)=n-k:=by omega
 rw [h81] at q3;clear h81
 go_region_law (refine iW rfl (.tmp 50) (.tmp 53) 32 rfl (v:=J (U ⟨N,(k+1) * 5,L⟩) (n-k) (G-(k+1))) (xv:=J (U ⟨g,k * 5,L⟩) (n-k) (cap-k)) (by simp [Act.eval,Act.put]) (by simp [Act.eval,Act.put]) q3 ?_)
 all_goals simp only [Exit.then]
 all_goals apply_assumption
 go_wp2;go_ret;exact Q.out
theorem Lc (B:Nat) (v:aK) (l:List C5) (k:Nat) (c:C5) (b:Nat) (W:aB) (ho:gT W B v l) (hx:dK W b (cells5 c).toArray 70) (hne:v.ownBlock≠U b) (hk:k<=l.length) (hl:l.length<=100) (hB:B<=W.heap.size) :
  aM O 180 #[v,Z ah k,J (U ⟨b,0,L⟩) 1 1] W (La B l k c W):=by
 rcases aP k l.length with h|h
 ·rcases gM ho with⟨_,h2⟩|⟨g,cap,cur,rfl,h1,h2,h3,h4,h5,h6⟩
  ·rw [h2] at h; simp at h
  ·rcases aP cap (l.length+1) with h7|h7
   ·exact IE B g _ cap cur l k c b W rfl h2 h4 h3 h6 hx h h7 hl hB
   ·exact Gd B g _ cap cur l k c b W rfl h1 h2 h4 h5 h6 hx (fun e=>hne (by simp [Value.ownBlock,e])) h h7 hl
 ·obtain rfl:k=l.length:=by omega
  exact Lb B v l c b W ho hx hl hB
def nJ (m:List Cn) (c:Cn):Except Int (List Cn):=match oM m c with
 | none=>.error 5
 | some m'=>if 5<m'.length then .error 7 else .ok m'
def TD (B:Nat) (r:Except Int (List Cn)) (W:aB) (e:Ending) (w':aB):Prop:=Below B W w'/\(match r with
 | .ok m'=>∃ v',e=aC (.tuple #[v',.nilIface])/\gT w' B v' (m'.map r5)
 | .error k=>e=aC (.tuple #[J L 0 0,.iface 205 (Z ah k)]))
theorem Qo {m:List Cn} {c:Cn} (h:kC m c.1=aL) (h5:m.length=5):nJ m c=.error 7:=by
 unfold nJ;rw [zW h];have:=wI m c.1;simp only;rw [if_pos (by simp; omega)]
theorem Qp {m:List Cn} {c:Cn} (h:kC m c.1=aL) (h5:m.length<5):nJ m c=.ok (m.take (jW m c.1)++c::m.drop (jW m c.1)):=by
 unfold nJ;rw [zW h];have:=wI m c.1;simp only;rw [if_neg (by simp; omega)]
theorem Ea:∀ (l:List C5) (k:Nat) (x:C5),k<l.length->flat EC (l.set k x)=((((( flat EC l).set (k * 5) (aj x.1)).set (k * 5+1) (Z ah x.2.1)).set (k * 5+2) (Z ah x.2.2.1)).set (k * 5+3) (Z ah x.2.2.2.1)).set (k * 5+4) (aj x.2.2.2.2)
 | [],k,x,h=>by simp at h
 | y::r,0,x,_=>by simp [flat,EC,cells5]
 | y::r,k+1,x,h=>by
  have h2:=Ea r k x (by simpa using h);have e:∀ j u (zs:List aK),(cells5 y++zs).set (5+j) u=cells5 y++zs.set j u:=fun j u zs=>by simp [cells5,Nat.add_comm 5 j]
  simp only [List.set_cons_succ,flat,h2];show cells5 y++_=_;rw [show (k+1) * 5=5+k * 5 by omega,show 5+k * 5+1=5+(k * 5+1) by omega,show 5+k * 5+2=5+(k * 5+2) by omega,show 5+k * 5+3=5+(k * 5+3) by omega,show 5+k * 5+4=5+(k * 5+4) by omega];show _=((((( cells5 y++flat EC r).set _ _).set _ _).set _ _).set _ _).set _ _;rw [e,e,e,e,e]
theorem Eb {W:aB} {B g n cap k:Nat} {l:List C5} {x:C5} (h:gT W B (J (U ⟨g,0,L⟩) n cap) l) (hn:n=l.length) (hk:k<n) :
  gT (((((W.setCell ⟨g,k * 5,L⟩ (aj x.1)).setCell ⟨g,k * 5+1,L⟩ (Z ah x.2.1)).setCell ⟨g,k * 5+2,L⟩ (Z ah x.2.2.1)).setCell ⟨g,k * 5+3,L⟩ (Z ah x.2.2.2.1)).setCell ⟨g,k * 5+4,L⟩ (aj x.2.2.2.2)) B (J (U ⟨g,0,L⟩) n cap) (l.set k x):=by
 subst hn;have o1:=(ay h (k * 5) (aj x.1)).1;have o2:=(ay o1 (k * 5+1) (Z ah x.2.1)).1;have o3:=(ay o2 (k * 5+2) (Z ah x.2.2.1)).1;have o4:=(ay o3 (k * 5+3) (Z ah x.2.2.2.1)).1;have o5:=(ay o4 (k * 5+4) (aj x.2.2.2.2)).1;rw [<- Ea l k x hk] at o5;show World.ownsRow _ _ _ _ _ (l.set k x).length _;rw [aT];exact o5
theorem wP {B:Nat} {W w:aB} (h:Below B W w) (g:Nat) (hB:B<=g) (o:Nat) (v0 v1 v2 v3 v4:aK):Below B W (((((w.setCell ⟨g,o,L⟩ v0).setCell ⟨g,o+1,L⟩ v1).setCell ⟨g,o+2,L⟩ v2).setCell ⟨g,o+3,L⟩ v3).setCell ⟨g,o+4,L⟩ v4) :=
 ((((h.setCell hB _).setCell hB _).setCell hB _).setCell hB _).setCell hB _
theorem uM {W:aB} {b:Nat} {z:C5} (h:dK W b (cells5 z).toArray 70) (x:C5):dK (((((W.setCell ⟨b,0,L⟩ (aj x.1)).setCell ⟨b,1,L⟩ (Z ah x.2.1)).setCell ⟨b,2,L⟩ (Z ah x.2.2.1)).setCell ⟨b,3,L⟩ (Z ah x.2.2.2.1)).setCell ⟨b,4,L⟩ (aj x.2.2.2.2)) b (cells5 x).toArray 70:=by
 have h1:=heap_setCell_same W b 0 _ 70 (aj x.1) h;have h2:=heap_setCell_same _ b 1 _ 70 (Z ah x.2.1) h1;have h3:=heap_setCell_same _ b 2 _ 70 (Z ah x.2.2.1) h2;have h4:=heap_setCell_same _ b 3 _ 70 (Z ah x.2.2.2.1) h3;have h5:=heap_setCell_same _ b 4 _ 70 (aj x.2.2.2.2) h4;unfold dK;rw [h5];simp [cells5]
theorem YI {W:aB} {B:Nat} {v:aK} {l:List C5} (h:gT W B v l) {b:Nat} (hb:W.heap.size<=b):v.ownBlock≠U b:=by
 intro e;have:=(h.lt b e).2;omega
theorem TF (B:Nat) (v:aK) (m:List Cn) (c:Cn) (W:aB) (ho:gT W B v (m.map r5)) (hr:jN m) (h5:m.length<=5) (hB:B<=W.heap.size) (ht:kC m c.1=aL) :
  aM O 158 #[v,cv (r5 c)] W (TD B (nJ m c) W):=by
 have BX:=D (dJ W (cells5 (r5 c)).toArray 70);have B1:=D ((aD W.heap.size W).alloc (V _) (aA (cells5 (r5 c)).toArray 70));have BS:=D (Tz v m c (W.alloc (aA (cells5 (r5 c)).toArray 70)) ((Row.dH ho).on B1.out) hr (by omega));have OW:=D ho;have LN:=D (show (m.map r5).length=m.length from ak ..);have CL:=D (wI m c.1);obtain⟨ao,ac,rfl⟩:=(Row.dH ho).len;rw [LN.out] at *;rw [ht] at BS;have hbw:W.heap.size<(W.alloc (aA (cells5 (r5 c)).toArray 70)).heap.size:=by simp
 by_cases hf:m.length=5
 ·have Q:=D (Qo ht hf);generalize nJ m c=q at *;have e5:((m.length:Int) == (5:Int))=aX:=by simp; omega
  clear ho hf;simp only [r5] at BS ⊢;go_enter aR,aO;go_wp2_with fail;refine BS.out.mono ?_;rintro e2 w2 ⟨rfl,hb2⟩;have B2:=D (B1.out.trans (hb2.mono B1.out.size));clear hb2 BS B1 BX;go_wp2
  go_ret2
  exact⟨B2.out.mono hB,by rw [Q.out]; rfl⟩
 ·have Q:=D (Qp ht (show m.length<5 by omega));have IN:=D (fun (w2:aB) (h2:gT w2 B (J ao m.length ac) (m.map r5)) (hB2:B<=w2.heap.size)=>Lc B (J ao m.length ac) (m.map r5) (jW m c.1) (r5 c) w2.heap.size (w2.alloc (aA (cells5 (r5 c)).toArray 70)) (dI h2 ((aD _ _).alloc (V _) _)) (dJ w2 _ _) (YI h2 (V _)) (by rw [ak]; exact CL.out) (by rw [ak]; omega) (by simp; omega));generalize nJ m c=q at *;have e5:((m.length:Int) == (5:Int))=aL:=by rw [beq_eq_false_iff_ne]; omega
  clear ho hf;simp only [r5] at BS ⊢;go_enter aR,aO;go_wp2_with fail;refine BS.out.mono ?_;rintro e2 w2 ⟨rfl,hb2⟩;have B2:=D (B1.out.trans (hb2.mono B1.out.size));have O2:=D (dI OW.out B2.out);obtain⟨x0,x1,x2,x3,x4⟩:=fA (BX.out.on hb2);simp only [r5] at x0 x1 x2 x3 x4;clear hb2 BS B1 BX;go_wp2_with fail;have C:=IN.out w2 O2.out (by have:=B2.out.size; omega);refine C.mono ?_;rintro e3 w3 ⟨v',rfl,ho3,hb3⟩;have B3:=D (((B2.out.mono hB).alloc (by have:=B2.out.size; omega) (aA (cells5 (r5 c)).toArray 70)).trans hb3);have O3:=D ho3;clear ho3 hb3 C IN O2 x0 x1 x2 x3 x4;go_wp2
  go_ret2
  exact⟨B3.out,by rw [Q.out]; exact⟨v',rfl,by rw [List.map_append,List.map_cons,List.map_take,List.map_drop]; exact O3.out⟩⟩
theorem TI (B:Nat) (v:aK) (m:List Cn) (c:Cn) (W:aB) (ho:gT W B v (m.map r5)) (hr:jN m) (h5:m.length<=5) (hB:B<=W.heap.size) (ht:kC m c.1=aX) :
  aM O 158 #[v,cv (r5 c)] W (TD B (nJ m c) W):=by
 obtain⟨x,hx,hn,hi⟩:=Dy ht;have BX:=D (dJ W (cells5 (r5 c)).toArray 70);have B1:=D ((aD W.heap.size W).alloc (V _) (aA (cells5 (r5 c)).toArray 70));have BS:=D (Tz v m c (W.alloc (aA (cells5 (r5 c)).toArray 70)) ((Row.dH ho).on B1.out) hr (by omega));rw [ht] at BS;have CB:=D (fun w=>IC x c w hn);have Q:=D (show nJ m c=match fE x.2 c.2 with
  | some k=>.ok (m.set (jW m c.1) (x.1,k))
  | none=>.error 5 by
   unfold nJ;rw [hi];cases fE x.2 c.2 with
   | none=>rfl
   | some k=>simp only [Option.map_some]; rw [if_neg (by rw [aT]; omega)])
 generalize nJ m c=q at *;generalize fE x.2 c.2=r at *;have hkl:jW m c.1<m.length:=(aG.1 hx).1;generalize hk:jW m c.1=k at *;have HK:=D hkl;have ML:=D (show (m.map r5).length=m.length from ak ..);rcases gM ho with⟨_,h2⟩|⟨g,cap,cur,rfl,hBg,hg,hlc,hcm,hsz,htk⟩
 ·have:=List.map_eq_nil_iff.1 h2;subst this;simp at hkl
 ·have fl:=zV uW (m.map r5) k (r5 x) (by rw [aH,hx]; rfl);have cl:∀ j u,j<5->(cells5 (r5 x))[j]?=U u->W.cell? ⟨g,k * 5+j,L⟩=U u:=fun j u hj hu=>(aW ho (k * 5+j) (by rw [ak]; show _<m.length * 5; omega)).trans ((fl j hj).trans hu);have GC:=D (fun (w2:aB) (hb:Below W.heap.size W w2)=>show w2.cell? ⟨g,k * 5,L⟩=U (aj x.1)/\w2.cell? ⟨g,k * 5+1,L⟩=U (Z ah (kN x.2))/\w2.cell? ⟨g,k * 5+2,L⟩=U (Z ah (jF x.2))/\w2.cell? ⟨g,k * 5+3,L⟩=U (Z ah (jG x.2))/\w2.cell? ⟨g,k * 5+4,L⟩=U (aj (kT x.2)) from
   ⟨(hb.cell (show g<W.heap.size from hg.lt)).trans (cl 0 _ (by decide) rfl),(hb.cell (show g<W.heap.size from hg.lt)).trans (cl 1 _ (by decide) rfl),(hb.cell (show g<W.heap.size from hg.lt)).trans (cl 2 _ (by decide) rfl),(hb.cell (show g<W.heap.size from hg.lt)).trans (cl 3 _ (by decide) rfl),(hb.cell (show g<W.heap.size from hg.lt)).trans (cl 4 _ (by decide) rfl)⟩)
  have OW:=D ho;have GL:=D hg.lt;have BG:=D hBg;have GBX:=D (show dK W g cur 70 from hg);rw [ak] at OW BS ⊢;generalize m.length=n at *;have ix:=lC uW g k n cap (by omega);change ∀ w,(aV 32 (J (U ⟨g,0,L⟩) n cap) (Z ah k)).run O w=.ok (aU (U ⟨g,k * 5,L⟩)) w at ix;clear ho hr ht hx hi hk hg hlc hcm hsz htk fl cl hBg hn;simp only [r5] at BS CB ⊢;go_enter aR,aO;go_wp2_with fail;refine BS.out.mono ?_;rintro e2 w2 ⟨rfl,hb2⟩;have B2:=D (B1.out.trans (hb2.mono B1.out.size));obtain⟨x0,x1,x2,x3,x4⟩:=fA (BX.out.on hb2);obtain⟨p0,p1,p2,p3,p4⟩:=GC.out w2 B2.out;have hw2:W.heap.size<w2.heap.size:=by have:=hb2.size; simp at this; omega
  have hg2:g<w2.heap.size:=by have:=GL.out; omega
  have gc1:∀ o,(w2.drew.alloc o).cell? ⟨g,k * 5,L⟩=U (aj x.1):=fun o=>((aD w2.heap.size w2.drew).alloc (V _) o).cell hg2 |>.trans p0;simp only [r5] at x0 x1 x2 x3 x4;clear hb2 BS B1 BX gc1;go_wp2_with fail
  rename_i K hK
  have TAIL:∀ (pb:Nat) (wf:aB) (y:C5) (u10 u11 u12 u13 u14 u15 u16 u17 u18 u19 u20 u21 u22 u23 u24 u25 u26 u27 u28 u29 u30 u31 u32 u33 u34 u35 u36 u37 u38 u39 u40 u41 u42 u43:aK),dK wf pb (cells5 y).toArray 70->Below W.heap.size W wf->(∀ k',r=U k'->y=r5 (x.1,k'))->K ⟨#[J (U ⟨g,0,L⟩) n cap,cv (c.1,kN c.2,jF c.2,jG c.2,kT c.2),undef,aU (U ⟨W.heap.size,0,L⟩),J L 0 0,.nilIface,Z ah k,aY aX,aU (U ⟨pb,0,L⟩),aY r.isSome,u10,u11,u12,u13,u14,u15,u16,u17,u18,u19,u20,u21,u22,u23,u24,u25,u26,u27,u28,u29,u30,u31,u32,u33,u34,u35,u36,u37,u38,u39,u40,u41,u42,u43],[]⟩ wf:=by
   clear x0 x1 x2 x3 x4 p0 p1 p2 p3 p4 CB B2 hw2 hg2;intro pb wf y u10 u11 u12 u13 u14 u15 u16 u17 u18 u19 u20 u21 u22 u23 u24 u25 u26 u27 u28 u29 u30 u31 u32 u33 u34 u35 u36 u37 u38 u39 u40 u41 u42 u43 hyb hbw hyk;obtain⟨y0,y1,y2,y3,y4⟩:=fA hyb;have OF:=dI OW.out hbw;have fz:=fun j=>(GBX.out.on hbw).fr j;obtain⟨p0,p1,p2,p3,p4⟩:=GC.out wf hbw;have HB:=D hbw;have HO:=D OF;have HY:=D hyk;clear hyb hbw OF GC OW hyk;apply hK;clear hK;rcases r with _|k'
   ·have QQ:=D (show q=.error 5 from Q.out);clear Q;go_wp2
    go_ret2
    exact⟨HB.out.mono hB,by rw [QQ.out]; rfl⟩
   ·have QQ:=D (show q=.ok (m.set k (x.1,k')) from Q.out);clear Q;go_wp2
    go_ret2
    refine⟨wP (HB.out.mono hB) g BG.out _ _ _ _ _ _,?_⟩;rw [QQ.out];refine⟨J (U ⟨g,0,L⟩) n cap,rfl,?_⟩;rw [List.map_set,<- HY.out k' rfl];exact Eb HO.out ML.out.symm HK.out
  clear hK
  go_region_with (go_at_call 181; refine (CB.out _).mono ?_; rintro e w3 ⟨⟨y,rfl,hy⟩,hb3⟩; (try (have ZB:=D ((dJ w2.drew (cells5 (⟨#[]⟩,0,0,0,⟨#[]⟩)).toArray 70).on hb3); obtain⟨z0,z1,z2,z3,z4⟩:=fA ZB.out; have fz:=fun k=>ZB.out.fr k; simp only [World.size_drew] at z0 z1 z2 z3 z4 fz)))
  all_goals simp only [Exit.then]
  all_goals first
   | exact TAIL w3.heap.size _ y _ _ _ _ _ _ _ _ _ _ _ _ _ _ _ _ _ _ _ _ _ _ _ _ _ _ _ _ _ _ _ _ _ _ (dJ w3 _ _) (((B2.out.drew).trans (hb3.mono (by have:=B2.out.size; simp; omega))).alloc (by have:=hb3.size; have:=B2.out.size; simp at *; omega) _) hy
   | exact TAIL w2.heap.size _ y _ _ _ _ _ _ _ _ _ _ _ _ _ _ _ _ _ _ _ _ _ _ _ _ _ _ _ _ _ _ _ _ _ _ (uM ((dJ w2.drew (cells5 (⟨#[]⟩,0,0,0,⟨#[]⟩)).toArray 70).on hb3) y) (gZ (((B2.out.drew).alloc (by have:=B2.out.size; simp; omega) _).trans (hb3.mono (by have:=B2.out.size; simp; omega))) w2.heap.size (by have:=B2.out.size; omega) _ _ _ _ _) hy
theorem Bd (B:Nat) (v:aK) (m:List Cn) (c:Cn) (W:aB) (ho:gT W B v (m.map r5)) (hr:jN m) (h5:m.length<=5) (hB:B<=W.heap.size) :
  aM O 158 #[v,cv (r5 c)] W (TD B (nJ m c) W):=by
 cases h:kC m c.1
 ·exact TF B v m c W ho hr h5 hB h
 ·exact TI B v m c W ho hr h5 hB h
end Go.Proofs.YtmklifheakemeaaGreat.Pr
