/-
  slices.BinarySearchF. Conditions as told.
-/
import Derived.Deep.LoopGhost
import Derived.Test.YtghlpefopidlaaaGreatBQ011
set_option maxRecDepth 100000
set_option maxHeartbeats 64000000
open _root_.Bool renaming false->aP,true->bg
open _root_.Go renaming cell_regrown->au,World->aC,redrawn->aG,below_regrown->aM,Value->aO,Calls->aQ
open Go.Builtin renaming copy_->aN
open Go.Ending renaming returned->aD
open Go.Instr renaming sliceAt->ay,indexAt->aZ
open Go.IntKind renaming i64->ah,wrap_i64->aW
open Go.Lib renaming hid->D
open Go.Obj renaming cells->aB
open Go.Op renaming bytesLess->aH
open Go.Proofs.Tryz renaming prog->O,ntmps191->aR,ntmps170->aS,func191->aU,func170->aV
open Go.RowKit.Below renaming refl->aF
open Go.Value renaming slice->J,int->Z,string->aj,pointer->aY,bool->bC
open Go.World.ownsRow renaming stored->aA,cellAt->bf
open _root_.List renaming length_map->ak,getElem?_eq_some_iff->aI,getElem?_map->aJ,getElem?_eq_getElem->aK,length_set->aX
open _root_.Nat renaming le_refl->V,lt_or_ge->aT
open _root_.Option renaming none->L,some->U
namespace Go.Proofs.YtghlpefopidlaaaGreat.Pr
open Go.RowKit Go.Sort Pu Rw Va
theorem ER (a b:ByteArray) (w:aC):aQ O 202 #[aj a,aj b] w fun e w'=>e=aD (Z ah (Ab a b))/\w'=w:=by
 go_enter Tryz.func202,Tryz.ntmps202;go_wp2_with fail;rw [run_callFunc_extern Tryz.func204 (by kernel_rfl) (by kernel_rfl) (by kernel_rfl) (e:=Extern.BytealgCompare.compare) (by kernel_rfl),Lib.run_compareString];simp only [Result.andThen];rw [Oper.upon_value];go_wp2;go_ret;exact⟨rfl,rfl⟩
theorem mH (a b:ByteArray) (w:aC):aQ O 197 #[aj a,aj b] w fun e w'=>e=aD (Z ah (Ab a b))/\w'=w:=by
 go_enter Tryz.func197,Tryz.ntmps197;go_wp2_with fail;refine (ER a b w).mono ?_;rintro e w' ⟨rfl,rfl⟩;go_wp2;go_ret;exact⟨rfl,rfl⟩
theorem EX (c d:C5) (w:aC):aQ O 190 #[cv c,cv d] w fun e w'=>e=aD (Z ah (Ab c.1 d.1))/\Below w.heap.size w w':=by
 go_enter Tryz.func190,Tryz.ntmps190;go_wp2_with fail;refine (mH c.1 d.1 _).mono ?_;rintro e w' ⟨rfl,rfl⟩;go_wp2;go_ret;exact⟨rfl,((aF w.heap.size w).alloc (V _) _).alloc (by simp) _⟩
theorem yL (c d:C5) (r:Int) (hr:Ab c.1 d.1=r) (w:aC) (k:Nat) (os:Array Obj) :
  aQ O 190 #[cv c,cv d] (grow (aG w k) os) fun e w''=>e=aD (Z ah r)/\∃ p:Regrown,w''=grow (aG w p.d) p.os:=by
 subst hr;exact Calls.regrown_of (EX c d _)
theorem vS {W W1:aC} {v:aO} {l:List C5} {ao:Option Addr} {n c k:Nat} {x:C5} (h:fF W v l) (hv:v=J ao n c) (hn:l.length=n) (hk:l[k]?=U x) (hb:Below W.heap.size W W1) :
  ∃ p:Addr,(∀ w,(aZ 34 (J ao n c) (Z ah k)).run O w=.ok (aY (U p)) w) /\
   (∀ d os,(grow (aG W1 d) os).cell? p=U (aj x.1))/\(∀ d os,(grow (aG W1 d) os).cell? ⟨p.block,p.off+1,L⟩=U (Z ah x.2.1))/\(∀ d os,(grow (aG W1 d) os).cell? ⟨p.block,p.off+2,L⟩=U (Z ah x.2.2.1))/\(∀ d os,(grow (aG W1 d) os).cell? ⟨p.block,p.off+3,L⟩=U (Z ah x.2.2.2.1))/\(∀ d os,(grow (aG W1 d) os).cell? ⟨p.block,p.off+4,L⟩=U (aj x.2.2.2.2)):=by
 obtain⟨p,h1,h2⟩:=VW h hv hn hk;obtain⟨c0,c1,c2,c3,c4⟩:=h2 _ hb;exact⟨p,h1,au c0,au c1,au c2,au c3,au c4⟩
theorem tY {W:aC} {b:Nat} {c:C5} (h:dG W b (cells5 c).toArray 91):(∀ d os,(grow (aG W d) os).cell? ⟨b,0,L⟩=U (aj c.1))/\(∀ d os,(grow (aG W d) os).cell? ⟨b,1,L⟩=U (Z ah c.2.1))/\(∀ d os,(grow (aG W d) os).cell? ⟨b,2,L⟩=U (Z ah c.2.2.1))/\(∀ d os,(grow (aG W d) os).cell? ⟨b,3,L⟩=U (Z ah c.2.2.2.1))/\(∀ d os,(grow (aG W d) os).cell? ⟨b,4,L⟩=U (aj c.2.2.2.2)) :=
 ⟨au (h.cell 0),au (h.cell 1),au (h.cell 2),au (h.cell 3),au (h.cell 4)⟩
theorem LC (v:aO) (l:List Cn) (c:Cn) (w:aC) (hv:fF w v (l.map r5)) (hr:iB l) (hl:l.length<=100) :
  aQ O 189 #[v,cv (r5 c),.func (.func 190) #[] #[]] w fun e w'=>e=aD (.tuple #[Z ah (jL l c.1),bC (jV l c.1)])/\Below w.heap.size w w':=by
 have HL:=D hv;have HR:=D hr;have LN:=D (show (l.map r5).length=l.length from ak ..);have BX:=D (dO w (cells5 (r5 c)).toArray 91);have B1:=D ((aF w.heap.size w).alloc (V _) (aB (cells5 (r5 c)).toArray 91));obtain⟨ao,ac,rfl⟩:=hv.len;rw [ak] at HL ⊢;obtain⟨n,hn⟩:∃ n,n=l.length:=⟨_,rfl⟩;rw [<- hn] at HL hl ⊢;have HN:=D hn;obtain⟨cnt,hc⟩:∃ k,k=jL l c.1:=⟨_,rfl⟩;obtain⟨th,ht⟩:∃ k,k=jV l c.1:=⟨_,rfl⟩;rw [<- hc,<- ht];have HC:=D hc;have HT:=D ht;clear hv hr hn hc ht;go_enter Tryz.func189,Tryz.ntmps189;go_wp2;change Code.wp _ _ _ _ (w.alloc (aB (cells5 (r5 c)).toArray 91));generalize w.alloc (aB (cells5 (r5 c)).toArray 91)=w1 at *
 go_loopg [9,10] n (fun kx s9 s10 wr=>∃ lo hi:Nat,s9=Z ah lo/\s10=Z ah hi/\lo<=hi/\hi<=n/\hi-lo<=kx/\Below w.heap.size w wr/\dG wr w.heap.size (cells5 (r5 c)).toArray 91 /\
  (∀ (t:Nat) (y:Cn),t<lo->l[t]?=U y->aH y.1.toList c.1.toList=bg)/\(∀ (t:Nat) (y:Cn),hi<=t->l[t]?=U y->aH y.1.toList c.1.toList=aP))
 case atStart=>exact⟨0,n,rfl,rfl,Nat.zero_le _,V _,by omega,B1.out,BX.out,fun t y h=>by omega,fun t y h1 h2=>by have:=(aI.1 h2).1; have:=HN.out; omega⟩
 case round =>
  clear B1 BX;obtain⟨lo,hi,rfl,rfl,hlh,hin,hg,hb,hx,ha,hz⟩:=hrel;have B:=D hb;have X:=D hx;have AL:=D ha;have ZL:=D hz;clear hb hx ha hz;by_cases hlt:lo<hi
  ·obtain⟨y,hy⟩:∃ y,l[(lo+hi) / 2]?=U y:=⟨_,aK (by have:=HN.out; omega)⟩;obtain⟨p,ix,p0,p1,p2,p3,p4⟩:=vS (x:=r5 y) HL.out rfl (LN.out.trans HN.out.symm) (by rw [aJ,hy]; rfl) B.out;obtain⟨b0,b1,b2,b3,b4⟩:=tY X.out;obtain⟨r,hr⟩:∃ r,Ab y.1 c.1=r:=⟨_,rfl⟩;have C:=yL (r5 y) (r5 c) r hr wr;have LE:=D (show decide (r<0)=aH y.1.toList c.1.toList by rw [<- hr]; exact IC _ _);have Y:=D hy;simp only [r5] at p0 p1 p2 p3 p4 b0 b1 b2 b3 b4 C ⊢;clear hy hr;have e23:((lo:Int)+(hi:Int)) / 2=(((lo+hi) / 2:Nat):Int):=by omega
   generalize hm:(lo+hi) / 2=m at *;have BN:=D (fun dq osq=>B.out.trans ((aM wr dq osq).mono B.out.size));have XN:=D (fun dq osq=>X.out.on (aM wr dq osq));by_cases hneg:r<0
   ·have d0:decide (r<0)=bg:=by simpa using hneg
    have LT:=D (show aH y.1.toList c.1.toList=bg by rw [<- LE.out]; exact d0);go_wp2;refine wp_region_quiet_below (by kernel_rfl) (by kernel_rfl) ?_
    repeat (go_big_quiet_step (first | (with_reducible exact C _ _) | exact o7 _ _))
    refine wpQuiet_nil ?_;intro _ hw';obtain⟨⟨dq,osq⟩,hw''⟩:=hw';subst hw'';clear ix p0 p1 p2 p3 p4 b0 b1 b2 b3 b4 C;go_wp2
    go_roundg (hi-(m+1))
    case measure=>omega
    case rel=>exact⟨m+1,hi,by go_num,rfl,by omega,hin,V _,BN.out _ _,XN.out _ _,fun t z h1 h2=>by
     rcases aT t m with h3|h3
     ·exact yE HR.out (by omega) h2 Y.out LT.out
     ·obtain rfl:t=m:=by omega
      rw [Y.out] at h2;rw [<- Option.some.inj h2];exact LT.out,ZL.out⟩
   ·have d0:decide (r<0)=aP:=by simpa using hneg
    have LT:=D (show aH y.1.toList c.1.toList=aP by rw [<- LE.out]; exact d0);go_wp2;refine wp_region_quiet_below (by kernel_rfl) (by kernel_rfl) ?_
    repeat (go_big_quiet_step (first | (with_reducible exact C _ _) | exact o7 _ _))
    refine wpQuiet_nil ?_;intro _ hw';obtain⟨⟨dq,osq⟩,hw''⟩:=hw';subst hw'';clear ix p0 p1 p2 p3 p4 b0 b1 b2 b3 b4 C;go_wp2
    go_roundg (m-lo)
    case measure=>omega
    case rel=>exact⟨lo,m,rfl,rfl,by omega,by omega,V _,BN.out _ _,XN.out _ _,AL.out,fun t z h1 h2=>by
     cases h:aH z.1.toList c.1.toList
     ·rfl
     ·have:=yE HR.out h1 Y.out h2 h;rw [LT.out] at this;cases this⟩
  ·obtain rfl:hi=lo:=by omega
   have E:=D (Gv l c.1 hi (by have:=HN.out; omega) AL.out (fun z hz=>ZL.out hi z (V _) hz));by_cases hn:hi<n
   ·obtain⟨y,hy⟩:∃ y,l[hi]?=U y:=⟨_,aK (by have:=HN.out; omega)⟩;obtain⟨p,ix,p0,p1,p2,p3,p4⟩:=vS (x:=r5 y) HL.out rfl (LN.out.trans HN.out.symm) (by rw [aJ,hy]; rfl) B.out;obtain⟨b0,b1,b2,b3,b4⟩:=tY X.out;obtain⟨r,hr⟩:∃ r,Ab y.1 c.1=r:=⟨_,rfl⟩;have C:=yL (r5 y) (r5 c) r hr wr;have TH:=D (show th=(r == 0) by
     rw [HT.out,jV,E.out,hy,Bool.eq_iff_iff,beq_iff_eq,<- hr,IE,decide_eq_true_eq])
    simp only [r5] at p0 p1 p2 p3 p4 b0 b1 b2 b3 b4 C ⊢;have BN:=D (fun dq osq=>B.out.trans ((aM wr dq osq).mono B.out.size));have CE:=D (show cnt=hi by rw [HC.out,E.out]);clear hy hr hlt;have g4:decide ((hi:Int)<(n:Int))=bg:=by simp; omega
    go_wp2;refine wp_region_quiet_below (by kernel_rfl) (by kernel_rfl) ?_
    repeat (go_big_quiet_step (first | (with_reducible exact C _ _) | exact o7 _ _))
    refine wpQuiet_nil ?_;intro _ hw';obtain⟨⟨dq,osq⟩,hw''⟩:=hw';subst hw'';clear ix p0 p1 p2 p3 p4 b0 b1 b2 b3 b4 C;go_wp2
    go_ret2
    exact⟨by rw [TH.out,CE.out]; rfl,BN.out _ _⟩
   ·have TH:=D (show th=aP by
     rw [HT.out,jV,E.out,List.getElem?_eq_none (by have:=HN.out; omega)])
    have CE:=D (show cnt=hi by rw [HC.out,E.out]);have BN:=D (fun dq osq=>B.out.trans ((aM wr dq osq).mono B.out.size));have g4:decide ((hi:Int)<(n:Int))=aP:=by simp; omega
    clear hlt;go_wp2;refine wp_region_quiet_below (by kernel_rfl) (by kernel_rfl) ?_
    repeat (go_big_quiet_step (first | (with_reducible exact C _ _) | exact o7 _ _))
    refine wpQuiet_nil ?_;intro _ hw';obtain⟨⟨dq,osq⟩,hw''⟩:=hw';subst hw'';go_wp2
    go_ret2
    exact⟨by rw [TH.out,CE.out]; rfl,BN.out _ _⟩
theorem Qe {W:aC} {b:Nat} {c:C5} (h:dG W b (cells5 c).toArray 91):fF W (J (U ⟨b,0,L⟩) 1 1) [c] :=
 Or.inr ⟨⟨b,0,L⟩,1,rfl,by simp,by decide,nS h (by simp [EC])⟩
def EY (B:Nat) (l:List C5) (k:Nat) (c:C5) (W:aC) (e:Ending) (w':aC):Prop:=∃ v',e=aD v'/\iE w' B v' (l.take k++c::l.drop k)/\Below B W w'
theorem EZ (B:Nat) (v:aO) (l:List C5) (c:C5) (b:Nat) (W:aC) (ho:iE W B v l) (hx:dG W b (cells5 c).toArray 91) (hl:l.length<=100) (hB:B<=W.heap.size) :
  aQ O 191 #[v,Z ah (l.length:Nat),J (U ⟨b,0,L⟩) 1 1] W (EY B l l.length c W):=by
 obtain⟨v',w',hr,ho2,hg⟩:=TR B ho (Qe hx) (by omega) (by simp) hB;have Q:=D (show EY B l l.length c W (aD v') w' from ⟨v',rfl,by rw [List.take_of_length_le (V _),List.drop_of_length_le (V _)]; exact ho2,(aF B W).grown hg hB (fun j hj=>(ho.lt j hj).1)⟩);obtain⟨sx,hs,_⟩:=hiC (Row.dH ho) l.length (V _);obtain⟨ao,ac,rfl⟩:=(Row.dH ho).len;clear ho ho2 hg;generalize hn:l.length=n at *;clear hn;go_enter aU,aR;go_wp2_with (first | (at_builtin; refine wpList_append_run rfl _ _ 34 rfl rfl rfl hr ?_) | fail);go_ret;exact Q.out
theorem Qf (w:aC) (g b k la lb cb:Nat) (cur cs:Array aO) (hb:dG w b cs 91) (hg:dG w g cur 91) (hne:b≠g) (h0:0<cur.size):(callFunc 198 #[J (U ⟨b,0,L⟩) la 1,J (U ⟨g,k,L⟩) lb cb]).run O w=.ok (.value (bC aP)) w:=by
 rw [run_callFunc_extern Tryz.func198 (by kernel_rfl) (by kernel_rfl) (by kernel_rfl) (e:=Extern.SlicesOverlaps.overlaps #[34,34] #[4]) (by kernel_rfl),
  Lib.run_overlaps_apart w 34 4 91 Tryz.underlying34 5 Tryz.sizeOf91 ⟨b,0,L⟩ ⟨g,k,L⟩ la 1 lb cb hne 91 91 cs.size cur.size hb.shape hg.shape (by omega) (hb.fr 0) (hb.fr _)]
 rfl
theorem Ak (B g n cap:Nat) (cur:Array aO) (l:List C5) (k:Nat) (c:C5) (b:Nat) (W:aC) (hn:n=l.length) (hBg:B<=g) (hg:dG W g cur 91) (hcm:cap<=maxLen) (hsz:cur.size=cap * 5) (ht:cur.toList.take (n * 5)=flat EC l) (hx:dG W b (cells5 c).toArray 91) (hne:b≠g) (hk:k<n) (hroom:n+1<=cap) (hl:n<=100) :
  aQ O 191 #[J (U ⟨g,0,L⟩) n cap,Z ah k,J (U ⟨b,0,L⟩) 1 1] W (EY B l k c W):=by
 obtain⟨R1,R2,r1,r2,ow⟩:=nk (E:=EC) (l:=l) (k:=k) (cap:=cap) (cur:=cur) (cs:=(cells5 c).toArray) (c:=c) qZ (by omega) (by omega) hsz (by rw [<- hn]; exact ht) g b hne;have hov:=fun lb cb=>Qf W g b ((k+1) * 5) 1 lb cb cur (cells5 c).toArray hx hg hne (by omega);have s0:=fE (E:=EC) qZ g k n cap (by omega) (by omega);have s1:=iQ (E:=EC) qZ ⟨g,0,L⟩ (n+1) n cap (by omega);have s2:=fE (E:=EC) qZ g (k+1) (n+1) cap (by omega) (by omega);have s3:=fE (E:=EC) qZ g k (n+1) cap (by omega) (by omega);have q1:=r1 W.drew 3 (n+1-(k+1)) (cap-(k+1)) (n+1-k) (cap-k) hg (by omega);have q2:=r2 (W.drew.setRow g R1) 3 (n+1-k) (cap-k) (dG.set (show dG W.drew g cur 91 from hg) R1) (dG.other (show dG W.drew b _ 91 from hx) hne R1) rfl (by omega);have Q:=D (show EY B l k c W (aD (J (U ⟨g,0,L⟩) (n+1) cap)) ((W.drew.setRow g R1).setRow g R2) from ⟨_,rfl,by rw [hn]; exact ow _ B hBg hcm (dG.set (dG.set (show dG W.drew g cur 91 from hg) R1) R2),below_setRow (below_setRow (aF B W).drew hBg _) hBg _⟩);clear r1 r2 ow hg ht hx hsz hBg hcm;change ∀ w,(ay 34 (J (U ⟨g,0,L⟩) n cap) (U (Z ah k)) L L).run O w=.ok (J (U ⟨g,k * 5,L⟩) (n-k) (cap-k)) w at s0;change ∀ w,(ay 34 (J (U ⟨g,0,L⟩) n cap) L (U (Z ah ((n:Int)+1))) L).run O w=.ok (J (U ⟨g,0,L⟩) (n+1) cap) w at s1;change ∀ w,(ay 34 (J (U ⟨g,0,L⟩) (n+1) cap) (U (Z ah ((k:Int)+1))) L L).run O w=.ok (J (U ⟨g,(k+1) * 5,L⟩) (n+1-(k+1)) (cap-(k+1))) w at s2;change ∀ w,(ay 34 (J (U ⟨g,0,L⟩) (n+1) cap) (U (Z ah k)) L L).run O w=.ok (J (U ⟨g,k * 5,L⟩) (n+1-k) (cap-k)) w at s3;have e1:((k:Int) == (n:Int))=aP:=by rw [beq_eq_false_iff_ne]; omega
 have e2:decide ((cap:Int)<(n:Int)+1)=aP:=by simp; omega
 change (aN #[34,34] 3 #[J (U ⟨g,(k+1) * 5,L⟩) (n+1-(k+1)) (cap-(k+1)),J (U ⟨g,k * 5,L⟩) (n+1-k) (cap-k)]).run O W.drew=.ok (Z ah ((l.length-k:Nat):Int)) (W.drew.setRow g R1) at q1;change (aN #[34,34] 3 #[J (U ⟨g,k * 5,L⟩) (n+1-k) (cap-k),J (U ⟨b,0,L⟩) 1 1]).run O (W.drew.setRow g R1)=.ok (Z ah 1) ((W.drew.setRow g R1).setRow g R2) at q2;clear hn;go_enter aU,aR;go_wp2_with (first | (simp only [hov]) | fail);clear hov s0 s1 s2 s3;have hw1:IntKind.i64.wrap ((k:Int)+1)=(k:Int)+1:=by rw [aW]; omega
 have hb1:(0:Int)<=(k:Int)+1:=by omega
 have hb0:(k:Int)+1<=(n:Int)+1:=by omega
 have htn:((k:Int)+1).toNat=k+1:=by omega
 have hb2:¬ (cap=k+1):=by omega
 have hb3:(k:Int)<=(n:Int)+1:=by omega
 have hb4:¬ (cap=k):=by omega
 have h81:n+1-(k+1)=n-k:=by omega
 rw [h81] at q1;clear h81
 go_region_law (refine gq rfl (.tmp 73) (.tmp 76) 34 rfl (v:=J (U ⟨g,(k+1) * 5,L⟩) (n-k) (cap-(k+1))) (xv:=J (U ⟨g,k * 5,L⟩) (n+1-k) (cap-k)) (by simp [Act.eval,Act.put]) (by simp [Act.eval,Act.put]) q1 ?_)
 all_goals simp only [Exit.then]
 all_goals apply_assumption
 clear q1 hw1 hb1 hb0 htn hb2 hb3 hb4;have s3:=fE (E:=EC) qZ g k (n+1) cap (by omega) (by omega);change ∀ w,(ay 34 (J (U ⟨g,0,L⟩) (n+1) cap) (U (Z ah k)) L L).run O w=.ok (J (U ⟨g,k * 5,L⟩) (n+1-k) (cap-k)) w at s3;go_wp2_with (first | (at_builtin; refine wpList_copy_run rfl _ _ 34 rfl rfl rfl q2 ?_) | fail);go_ret;exact Q.out
theorem Cz (B g n cap:Nat) (cur:Array aO) (l:List C5) (k:Nat) (c:C5) (b:Nat) (W:aC) (hn:n=l.length) (hg:dG W g cur 91) (hcm:cap<=maxLen) (hnc:n<=cap) (ht:cur.toList.take (n * 5)=flat EC l) (hx:dG W b (cells5 c).toArray 91) (hk:k<n) (hroom:cap<n+1) (hl:n<=100) (hB:B<=W.heap.size) :
  aQ O 191 #[J (U ⟨g,0,L⟩) n cap,Z ah k,J (U ⟨b,0,L⟩) 1 1] W (EY B l k c W):=by
 have hgw:=hg.lt;have hbw:=hx.lt;obtain⟨G,R1,R2,R3,hG1,hG2,r1,r2,r3,ow⟩:=oN (E:=EC) (l:=l) (k:=k) (cap:=cap) (cur:=cur) (cs:=(cells5 c).toArray) (c:=c) qZ 3 Tryz.underlying3 (by omega) (by omega) (by omega) (by omega) (by rw [<- hn]; exact ht) W g b hg hbw;unfold maxLen at hcm hG2;have s0:=fE (E:=EC) qZ g k n cap (by omega) (by omega);have s1:=iQ (E:=EC) qZ ⟨g,0,L⟩ k n cap (by omega);have s2:=fE (E:=EC) qZ W.heap.size k (n+1) G (by omega) (by omega);have s3:=fE (E:=EC) qZ W.heap.size (k+1) (n+1) G (by omega) (by omega);have a1:=r1 34;have n1:=dO W.drew R1 91;have bl:W.drew.heap.size=W.heap.size:=rfl;rw [bl] at n1;have g1:dG (W.drew.alloc (aB R1 91)) g cur 91:=dG.more (show dG W.drew g cur 91 from hg) _;have x1:dG (W.drew.alloc (aB R1 91)) b (cells5 c).toArray 91:=dG.more (show dG W.drew b _ 91 from hx) _;have q2:=r2 (W.drew.alloc (aB R1 91)) 3 (n+1-k) (G-k) n1 x1 rfl (by omega);have q3:=r3 ((W.drew.alloc (aB R1 91)).setRow W.heap.size R2).drew 3 (n+1-(k+1)) (G-(k+1)) (n-k) (cap-k) (dG.set n1 R2) (dG.other g1 (by omega) R2) (by omega);have Q:=D (show EY B l k c W (aD (J (U ⟨W.heap.size,0,L⟩) (n+1) G)) (((W.drew.alloc (aB R1 91)).setRow W.heap.size R2).drew.setRow W.heap.size R3) from ⟨_,rfl,by rw [hn]; exact ow _ B hB (dG.set (dG.set n1 R2) R3),below_setRow (below_setRow ((aF B W).drew.alloc hB _) hB _).drew hB _⟩);have l1:l.length+1=n+1:=by rw [hn]
 rw [l1,<- hn] at a1;clear r1 r2 r3 ow hg ht hx g1 x1 n1 bl l1;change ∀ w,(ay 34 (J (U ⟨g,0,L⟩) n cap) (U (Z ah k)) L L).run O w=.ok (J (U ⟨g,k * 5,L⟩) (n-k) (cap-k)) w at s0;change ∀ w,(ay 34 (J (U ⟨g,0,L⟩) n cap) L (U (Z ah k)) L).run O w=.ok (J (U ⟨g,0,L⟩) k cap) w at s1;change ∀ w,(ay 34 (J (U ⟨W.heap.size,0,L⟩) (n+1) G) (U (Z ah k)) L L).run O w=.ok (J (U ⟨W.heap.size,k * 5,L⟩) (n+1-k) (G-k)) w at s2;change ∀ w,(ay 34 (J (U ⟨W.heap.size,0,L⟩) (n+1) G) (U (Z ah ((k:Int)+1))) L L).run O w=.ok (J (U ⟨W.heap.size,(k+1) * 5,L⟩) (n+1-(k+1)) (G-(k+1))) w at s3;change (Builtin.append_ #[34,3] 34 #[J (U ⟨g,0,L⟩) k cap,Z ah ((n:Int)+1-k)]).run O W=.ok (J (U ⟨W.heap.size,0,L⟩) (n+1) G) (W.drew.alloc (aB R1 91)) at a1;change (aN #[34,34] 3 #[J (U ⟨W.heap.size,k * 5,L⟩) (n+1-k) (G-k),J (U ⟨b,0,L⟩) 1 1]).run O (W.drew.alloc (aB R1 91))=.ok (Z ah 1) ((W.drew.alloc (aB R1 91)).setRow W.heap.size R2) at q2;change (aN #[34,34] 3 #[J (U ⟨W.heap.size,(k+1) * 5,L⟩) (n+1-(k+1)) (G-(k+1)),J (U ⟨g,k * 5,L⟩) (n-k) (cap-k)]).run O ((W.drew.alloc (aB R1 91)).setRow W.heap.size R2).drew=.ok (Z ah ((l.length-k:Nat):Int)) (((W.drew.alloc (aB R1 91)).setRow W.heap.size R2).drew.setRow W.heap.size R3) at q3;have e1:((k:Int) == (n:Int))=aP:=by rw [beq_eq_false_iff_ne]; omega
 have e2:decide ((cap:Int)<(n:Int)+1)=bg:=by simp; omega
 have hGn:n+1<=G:=by omega
 clear hn;generalize W.heap.size=N at *;generalize W.drew.alloc (aB R1 91)=W1 at *;generalize W1.setRow N R2=W2 at *;go_enter aU,aR;go_wp2_with (first | (at_builtin; refine gN rfl _ _ 34 3 rfl rfl rfl a1 ?_) | (at_builtin; refine wpList_copy_run rfl _ _ 34 rfl rfl rfl q2 ?_) | fail);clear a1 q2 s0 s1 s2 s3;have hw1:IntKind.i64.wrap ((k:Int)+1)=(k:Int)+1:=by rw [aW]; omega
 have hb1:(0:Int)<=(k:Int)+1:=by omega
 have hb0:(k:Int)+1<=(n:Int)+1:=by omega
 have htn:((k:Int)+1).toNat=k+1:=by omega
 have hb2:¬ (G=k+1):=by omega
 have hb3:(k:Int)<=(n:Int):=by omega
 have hb4:¬ (cap=k):=by omega
 have h81:n+1-(k+1)=n-k:=by omega
 rw [h81] at q3;clear h81
 go_region_law (refine gq rfl (.tmp 50) (.tmp 53) 34 rfl (v:=J (U ⟨N,(k+1) * 5,L⟩) (n-k) (G-(k+1))) (xv:=J (U ⟨g,k * 5,L⟩) (n-k) (cap-k)) (by simp [Act.eval,Act.put]) (by simp [Act.eval,Act.put]) q3 ?_)
 all_goals simp only [Exit.then]
 all_goals apply_assumption
 go_wp2;go_ret;exact Q.out
theorem E5 (B:Nat) (v:aO) (l:List C5) (k:Nat) (c:C5) (b:Nat) (W:aC) (ho:iE W B v l) (hx:dG W b (cells5 c).toArray 91) (hne:v.ownBlock≠U b) (hk:k<=l.length) (hl:l.length<=100) (hB:B<=W.heap.size) :
  aQ O 191 #[v,Z ah k,J (U ⟨b,0,L⟩) 1 1] W (EY B l k c W):=by
 rcases aT k l.length with h|h
 ·rcases eZ ho with⟨_,h2⟩|⟨g,cap,cur,rfl,h1,h2,h3,h4,h5,h6⟩
  ·rw [h2] at h; simp at h
  ·rcases aT cap (l.length+1) with h7|h7
   ·exact Cz B g _ cap cur l k c b W rfl h2 h4 h3 h6 hx h h7 hl hB
   ·exact Ak B g _ cap cur l k c b W rfl h1 h2 h4 h5 h6 hx (fun e=>hne (by simp [Value.ownBlock,e])) h h7 hl
 ·obtain rfl:k=l.length:=by omega
  exact EZ B v l c b W ho hx hl hB
def kG (m:List Cn) (c:Cn):Except Int (List Cn):=match kL m c with
 | none=>.error 5
 | some m'=>if 5<m'.length then .error 7 else .ok m'
def LD (B:Nat) (r:Except Int (List Cn)) (W:aC) (e:Ending) (w':aC):Prop:=Below B W w'/\(match r with
 | .ok m'=>∃ v',e=aD (.tuple #[v',.nilIface])/\iE w' B v' (m'.map r5)
 | .error k=>e=aD (.tuple #[J L 0 0,.iface 211 (Z ah k)]))
theorem Jd {m:List Cn} {c:Cn} (h:jV m c.1=aP) (h5:m.length=5):kG m c=.error 7:=by
 unfold kG;rw [Gw h];have:=uO m c.1;simp only;rw [if_pos (by simp; omega)]
theorem Je {m:List Cn} {c:Cn} (h:jV m c.1=aP) (h5:m.length<5):kG m c=.ok (m.take (jL m c.1)++c::m.drop (jL m c.1)):=by
 unfold kG;rw [Gw h];have:=uO m c.1;simp only;rw [if_neg (by simp; omega)]
theorem yM:∀ (l:List C5) (k:Nat) (x:C5),k<l.length->flat EC (l.set k x)=((((( flat EC l).set (k * 5) (aj x.1)).set (k * 5+1) (Z ah x.2.1)).set (k * 5+2) (Z ah x.2.2.1)).set (k * 5+3) (Z ah x.2.2.2.1)).set (k * 5+4) (aj x.2.2.2.2)
 | [],k,x,h=>by simp at h
 | y::r,0,x,_=>by simp [flat,EC,cells5]
 | y::r,k+1,x,h=>by
  have h2:=yM r k x (by simpa using h);have e:∀ j u (zs:List aO),(cells5 y++zs).set (5+j) u=cells5 y++zs.set j u:=fun j u zs=>by simp [cells5,Nat.add_comm 5 j]
  simp only [List.set_cons_succ,flat,h2];show cells5 y++_=_;rw [show (k+1) * 5=5+k * 5 by omega,show 5+k * 5+1=5+(k * 5+1) by omega,show 5+k * 5+2=5+(k * 5+2) by omega,show 5+k * 5+3=5+(k * 5+3) by omega,show 5+k * 5+4=5+(k * 5+4) by omega];show _=((((( cells5 y++flat EC r).set _ _).set _ _).set _ _).set _ _).set _ _;rw [e,e,e,e,e]
theorem Jf {W:aC} {B g n cap k:Nat} {l:List C5} {x:C5} (h:iE W B (J (U ⟨g,0,L⟩) n cap) l) (hn:n=l.length) (hk:k<n) :
  iE (((((W.setCell ⟨g,k * 5,L⟩ (aj x.1)).setCell ⟨g,k * 5+1,L⟩ (Z ah x.2.1)).setCell ⟨g,k * 5+2,L⟩ (Z ah x.2.2.1)).setCell ⟨g,k * 5+3,L⟩ (Z ah x.2.2.2.1)).setCell ⟨g,k * 5+4,L⟩ (aj x.2.2.2.2)) B (J (U ⟨g,0,L⟩) n cap) (l.set k x):=by
 subst hn;have o1:=(aA h (k * 5) (aj x.1)).1;have o2:=(aA o1 (k * 5+1) (Z ah x.2.1)).1;have o3:=(aA o2 (k * 5+2) (Z ah x.2.2.1)).1;have o4:=(aA o3 (k * 5+3) (Z ah x.2.2.2.1)).1;have o5:=(aA o4 (k * 5+4) (aj x.2.2.2.2)).1;rw [<- yM l k x hk] at o5;show World.ownsRow _ _ _ _ _ (l.set k x).length _;rw [aX];exact o5
theorem Al {B:Nat} {W w:aC} (h:Below B W w) (g:Nat) (hB:B<=g) (o:Nat) (v0 v1 v2 v3 v4:aO):Below B W (((((w.setCell ⟨g,o,L⟩ v0).setCell ⟨g,o+1,L⟩ v1).setCell ⟨g,o+2,L⟩ v2).setCell ⟨g,o+3,L⟩ v3).setCell ⟨g,o+4,L⟩ v4) :=
 ((((h.setCell hB _).setCell hB _).setCell hB _).setCell hB _).setCell hB _
theorem sO {W:aC} {b:Nat} {z:C5} (h:dG W b (cells5 z).toArray 91) (x:C5):dG (((((W.setCell ⟨b,0,L⟩ (aj x.1)).setCell ⟨b,1,L⟩ (Z ah x.2.1)).setCell ⟨b,2,L⟩ (Z ah x.2.2.1)).setCell ⟨b,3,L⟩ (Z ah x.2.2.2.1)).setCell ⟨b,4,L⟩ (aj x.2.2.2.2)) b (cells5 x).toArray 91:=by
 have h1:=heap_setCell_same W b 0 _ 91 (aj x.1) h;have h2:=heap_setCell_same _ b 1 _ 91 (Z ah x.2.1) h1;have h3:=heap_setCell_same _ b 2 _ 91 (Z ah x.2.2.1) h2;have h4:=heap_setCell_same _ b 3 _ 91 (Z ah x.2.2.2.1) h3;have h5:=heap_setCell_same _ b 4 _ 91 (aj x.2.2.2.2) h4;unfold dG;rw [h5];simp [cells5]
theorem Qg {W:aC} {B:Nat} {v:aO} {l:List C5} (h:iE W B v l) {b:Nat} (hb:W.heap.size<=b):v.ownBlock≠U b:=by
 intro e;have:=(h.lt b e).2;omega
theorem LG (B:Nat) (v:aO) (m:List Cn) (c:Cn) (W:aC) (ho:iE W B v (m.map r5)) (hr:iB m) (h5:m.length<=5) (hB:B<=W.heap.size) (ht:jV m c.1=aP) :
  aQ O 170 #[v,cv (r5 c)] W (LD B (kG m c) W):=by
 have BX:=D (dO W (cells5 (r5 c)).toArray 91);have B1:=D ((aF W.heap.size W).alloc (V _) (aB (cells5 (r5 c)).toArray 91));have BS:=D (LC v m c (W.alloc (aB (cells5 (r5 c)).toArray 91)) ((Row.dH ho).on B1.out) hr (by omega));have OW:=D ho;have LN:=D (show (m.map r5).length=m.length from ak ..);have CL:=D (uO m c.1);obtain⟨ao,ac,rfl⟩:=(Row.dH ho).len;rw [LN.out] at *;rw [ht] at BS;have hbw:W.heap.size<(W.alloc (aB (cells5 (r5 c)).toArray 91)).heap.size:=by simp
 by_cases hf:m.length=5
 ·have Q:=D (Jd ht hf);generalize kG m c=q at *;have e5:((m.length:Int) == (5:Int))=bg:=by simp; omega
  clear ho hf;simp only [r5] at BS ⊢;go_enter aV,aS;go_wp2_with fail;refine BS.out.mono ?_;rintro e2 w2 ⟨rfl,hb2⟩;have B2:=D (B1.out.trans (hb2.mono B1.out.size));clear hb2 BS B1 BX;go_wp2
  go_ret2
  exact⟨B2.out.mono hB,by rw [Q.out]; rfl⟩
 ·have Q:=D (Je ht (show m.length<5 by omega));have IN:=D (fun (w2:aC) (h2:iE w2 B (J ao m.length ac) (m.map r5)) (hB2:B<=w2.heap.size)=>E5 B (J ao m.length ac) (m.map r5) (jL m c.1) (r5 c) w2.heap.size (w2.alloc (aB (cells5 (r5 c)).toArray 91)) (dL h2 ((aF _ _).alloc (V _) _)) (dO w2 _ _) (Qg h2 (V _)) (by rw [ak]; exact CL.out) (by rw [ak]; omega) (by simp; omega));generalize kG m c=q at *;have e5:((m.length:Int) == (5:Int))=aP:=by rw [beq_eq_false_iff_ne]; omega
  clear ho hf;simp only [r5] at BS ⊢;go_enter aV,aS;go_wp2_with fail;refine BS.out.mono ?_;rintro e2 w2 ⟨rfl,hb2⟩;have B2:=D (B1.out.trans (hb2.mono B1.out.size));have O2:=D (dL OW.out B2.out);obtain⟨x0,x1,x2,x3,x4⟩:=gJ (BX.out.on hb2);simp only [r5] at x0 x1 x2 x3 x4;clear hb2 BS B1 BX;go_wp2_with fail;have C:=IN.out w2 O2.out (by have:=B2.out.size; omega);refine C.mono ?_;rintro e3 w3 ⟨v',rfl,ho3,hb3⟩;have B3:=D (((B2.out.mono hB).alloc (by have:=B2.out.size; omega) (aB (cells5 (r5 c)).toArray 91)).trans hb3);have O3:=D ho3;clear ho3 hb3 C IN O2 x0 x1 x2 x3 x4;go_wp2
  go_ret2
  exact⟨B3.out,by rw [Q.out]; exact⟨v',rfl,by rw [List.map_append,List.map_cons,List.map_take,List.map_drop]; exact O3.out⟩⟩
theorem LJ (B:Nat) (v:aO) (m:List Cn) (c:Cn) (W:aC) (ho:iE W B v (m.map r5)) (hr:iB m) (h5:m.length<=5) (hB:B<=W.heap.size) (ht:jV m c.1=bg) :
  aQ O 170 #[v,cv (r5 c)] W (LD B (kG m c) W):=by
 obtain⟨x,hx,hn,hi⟩:=IB ht;have BX:=D (dO W (cells5 (r5 c)).toArray 91);have B1:=D ((aF W.heap.size W).alloc (V _) (aB (cells5 (r5 c)).toArray 91));have BS:=D (LC v m c (W.alloc (aB (cells5 (r5 c)).toArray 91)) ((Row.dH ho).on B1.out) hr (by omega));rw [ht] at BS;have CB:=D (fun w=>Cj x c w hn);have Q:=D (show kG m c=match fK x.2 c.2 with
  | some k=>.ok (m.set (jL m c.1) (x.1,k))
  | none=>.error 5 by
   unfold kG;rw [hi];cases fK x.2 c.2 with
   | none=>rfl
   | some k=>simp only [Option.map_some]; rw [if_neg (by rw [aX]; omega)])
 generalize kG m c=q at *;generalize fK x.2 c.2=r at *;have hkl:jL m c.1<m.length:=(aI.1 hx).1;generalize hk:jL m c.1=k at *;have HK:=D hkl;have ML:=D (show (m.map r5).length=m.length from ak ..);rcases eZ ho with⟨_,h2⟩|⟨g,cap,cur,rfl,hBg,hg,hlc,hcm,hsz,htk⟩
 ·have:=List.map_eq_nil_iff.1 h2;subst this;simp at hkl
 ·have fl:=zW qZ (m.map r5) k (r5 x) (by rw [aJ,hx]; rfl);have cl:∀ j u,j<5->(cells5 (r5 x))[j]?=U u->W.cell? ⟨g,k * 5+j,L⟩=U u:=fun j u hj hu=>(bf ho (k * 5+j) (by rw [ak]; show _<m.length * 5; omega)).trans ((fl j hj).trans hu);have GC:=D (fun (w2:aC) (hb:Below W.heap.size W w2)=>show w2.cell? ⟨g,k * 5,L⟩=U (aj x.1)/\w2.cell? ⟨g,k * 5+1,L⟩=U (Z ah (kN x.2))/\w2.cell? ⟨g,k * 5+2,L⟩=U (Z ah (mE x.2))/\w2.cell? ⟨g,k * 5+3,L⟩=U (Z ah (mF x.2))/\w2.cell? ⟨g,k * 5+4,L⟩=U (aj (kT x.2)) from
   ⟨(hb.cell (show g<W.heap.size from hg.lt)).trans (cl 0 _ (by decide) rfl),(hb.cell (show g<W.heap.size from hg.lt)).trans (cl 1 _ (by decide) rfl),(hb.cell (show g<W.heap.size from hg.lt)).trans (cl 2 _ (by decide) rfl),(hb.cell (show g<W.heap.size from hg.lt)).trans (cl 3 _ (by decide) rfl),(hb.cell (show g<W.heap.size from hg.lt)).trans (cl 4 _ (by decide) rfl)⟩)
  have OW:=D ho;have GL:=D hg.lt;have BG:=D hBg;have GBX:=D (show dG W g cur 91 from hg);rw [ak] at OW BS ⊢;generalize m.length=n at *;have ix:=mZ qZ g k n cap (by omega);change ∀ w,(aZ 34 (J (U ⟨g,0,L⟩) n cap) (Z ah k)).run O w=.ok (aY (U ⟨g,k * 5,L⟩)) w at ix;clear ho hr ht hx hi hk hg hlc hcm hsz htk fl cl hBg hn;simp only [r5] at BS CB ⊢;go_enter aV,aS;go_wp2_with fail;refine BS.out.mono ?_;rintro e2 w2 ⟨rfl,hb2⟩;have B2:=D (B1.out.trans (hb2.mono B1.out.size));obtain⟨x0,x1,x2,x3,x4⟩:=gJ (BX.out.on hb2);obtain⟨p0,p1,p2,p3,p4⟩:=GC.out w2 B2.out;have hw2:W.heap.size<w2.heap.size:=by have:=hb2.size; simp at this; omega
  have hg2:g<w2.heap.size:=by have:=GL.out; omega
  have Vw:∀ o,(w2.drew.alloc o).cell? ⟨g,k * 5,L⟩=U (aj x.1):=fun o=>((aF w2.heap.size w2.drew).alloc (V _) o).cell hg2 |>.trans p0;simp only [r5] at x0 x1 x2 x3 x4;clear hb2 BS B1 BX Vw;go_wp2_with fail
  rename_i K hK
  have TAIL:∀ (pb:Nat) (wf:aC) (y:C5) (u10 u11 u12 u13 u14 u15 u16 u17 u18 u19 u20 u21 u22 u23 u24 u25 u26 u27 u28 u29 u30 u31 u32 u33 u34 u35 u36 u37 u38 u39 u40 u41 u42 u43:aO),dG wf pb (cells5 y).toArray 91->Below W.heap.size W wf->(∀ k',r=U k'->y=r5 (x.1,k'))->K ⟨#[J (U ⟨g,0,L⟩) n cap,cv (c.1,kN c.2,mE c.2,mF c.2,kT c.2),undef,aY (U ⟨W.heap.size,0,L⟩),J L 0 0,.nilIface,Z ah k,bC bg,aY (U ⟨pb,0,L⟩),bC r.isSome,u10,u11,u12,u13,u14,u15,u16,u17,u18,u19,u20,u21,u22,u23,u24,u25,u26,u27,u28,u29,u30,u31,u32,u33,u34,u35,u36,u37,u38,u39,u40,u41,u42,u43],[]⟩ wf:=by
   clear x0 x1 x2 x3 x4 p0 p1 p2 p3 p4 CB B2 hw2 hg2;intro pb wf y u10 u11 u12 u13 u14 u15 u16 u17 u18 u19 u20 u21 u22 u23 u24 u25 u26 u27 u28 u29 u30 u31 u32 u33 u34 u35 u36 u37 u38 u39 u40 u41 u42 u43 hyb hbw hyk;obtain⟨y0,y1,y2,y3,y4⟩:=gJ hyb;have OF:=dL OW.out hbw;have fz:=fun j=>(GBX.out.on hbw).fr j;obtain⟨p0,p1,p2,p3,p4⟩:=GC.out wf hbw;have HB:=D hbw;have HO:=D OF;have HY:=D hyk;clear hyb hbw OF GC OW hyk;apply hK;clear hK;rcases r with _|k'
   ·have QQ:=D (show q=.error 5 from Q.out);clear Q;go_wp2
    go_ret2
    exact⟨HB.out.mono hB,by rw [QQ.out]; rfl⟩
   ·have QQ:=D (show q=.ok (m.set k (x.1,k')) from Q.out);clear Q;go_wp2
    go_ret2
    refine⟨Al (HB.out.mono hB) g BG.out _ _ _ _ _ _,?_⟩;rw [QQ.out];refine⟨J (U ⟨g,0,L⟩) n cap,rfl,?_⟩;rw [List.map_set,<- HY.out k' rfl];exact Jf HO.out ML.out.symm HK.out
  clear hK
  go_region_with (go_at_call 133; refine (CB.out _).mono ?_; rintro e w3 ⟨⟨y,rfl,hy⟩,hb3⟩; (try (have ZB:=D ((dO w2.drew (cells5 (⟨#[]⟩,0,0,0,⟨#[]⟩)).toArray 91).on hb3); obtain⟨z0,z1,z2,z3,z4⟩:=gJ ZB.out; have fz:=fun k=>ZB.out.fr k; simp only [World.size_drew] at z0 z1 z2 z3 z4 fz)))
  all_goals simp only [Exit.then]
  all_goals first
   | exact TAIL w3.heap.size _ y _ _ _ _ _ _ _ _ _ _ _ _ _ _ _ _ _ _ _ _ _ _ _ _ _ _ _ _ _ _ _ _ _ _ (dO w3 _ _) (((B2.out.drew).trans (hb3.mono (by have:=B2.out.size; simp; omega))).alloc (by have:=hb3.size; have:=B2.out.size; simp at *; omega) _) hy
   | exact TAIL w2.heap.size _ y _ _ _ _ _ _ _ _ _ _ _ _ _ _ _ _ _ _ _ _ _ _ _ _ _ _ _ _ _ _ _ _ _ _ (sO ((dO w2.drew (cells5 (⟨#[]⟩,0,0,0,⟨#[]⟩)).toArray 91).on hb3) y) (jw (((B2.out.drew).alloc (by have:=B2.out.size; simp; omega) _).trans (hb3.mono (by have:=B2.out.size; simp; omega))) w2.heap.size (by have:=B2.out.size; omega) _ _ _ _ _) hy
theorem LK (B:Nat) (v:aO) (m:List Cn) (c:Cn) (W:aC) (ho:iE W B v (m.map r5)) (hr:iB m) (h5:m.length<=5) (hB:B<=W.heap.size) :
  aQ O 170 #[v,cv (r5 c)] W (LD B (kG m c) W):=by
 cases h:jV m c.1
 ·exact LG B v m c W ho hr h5 hB h
 ·exact LJ B v m c W ho hr h5 hB h
end Go.Proofs.YtghlpefopidlaaaGreat.Pr
