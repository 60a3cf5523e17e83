/-
  The region of Learn . Conditions as told.
-/
import Derived.Test.YtmklifheakemeaaGreatLQ004
import Derived.Test.YtmklifheakemeaaGreatLQ006
import Derived.Deep.LoopGhost
set_option maxRecDepth 100000
set_option maxHeartbeats 64000000
open Go.Ending renaming returned->U
open Go.Lib renaming hid->D
open Go.Op renaming bytesLess->J
open Go.Proofs.Tryz renaming prog->O
open Go.Value renaming string->Q,int->ah
open _root_.List renaming getElem?_eq_getElem->L,getElem?_map->Z,length_map->aj
open _root_.Nat renaming le_refl->K
open _root_.Option renaming some->V,none->ak
namespace Go.Proofs.YtmklifheakemeaaGreat
namespace Bk
open Go.RowKit Rw YtmklifheakemeaaGreat.Nm Pr
end Bk
namespace Pr
open Go.RowKit Go.Sort Pu Rw Va
theorem Ed (a b:ByteArray) (w:World):Calls O 194 #[Q a,Q b] w fun e w'=>e=U (ah .i64 (zG a b))/\w'=w:=by
 go_enter Tryz.func194,Tryz.ntmps194;go_wp2_with fail;rw [run_callFunc_extern Tryz.func198 (by kernel_rfl) (by kernel_rfl) (by kernel_rfl) (e:=Extern.BytealgCompare.compare) (by kernel_rfl),Lib.run_compareString];simp only [Result.andThen];rw [Oper.upon_value];go_wp2;go_ret;exact⟨rfl,rfl⟩
theorem lU (a b:ByteArray) (w:World):Calls O 186 #[Q a,Q b] w fun e w'=>e=U (ah .i64 (zG a b))/\w'=w:=by
 go_enter Tryz.func186,Tryz.ntmps186;go_wp2_with fail;refine (Ed a b w).mono ?_;rintro e w' ⟨rfl,rfl⟩;go_wp2;go_ret;exact⟨rfl,rfl⟩
theorem Ee (c d:C5) (w:World):Calls O 179 #[cv c,cv d] w fun e w'=>e=U (ah .i64 (zG c.1 d.1))/\Below w.heap.size w w':=by
 go_enter Tryz.func179,Tryz.ntmps179;go_wp2_with fail;refine (lU c.1 d.1 _).mono ?_;rintro e w' ⟨rfl,rfl⟩;go_wp2;go_ret;exact⟨rfl,((Below.refl w.heap.size w).alloc (K _) _).alloc (by simp) _⟩
theorem yu (c d:C5) (r:Int) (hr:zG c.1 d.1=r) (w:World) (k:Nat) (os:Array Obj) :
  Calls O 179 #[cv c,cv d] (grow (redrawn w k) os) fun e w''=>e=U (ah .i64 r)/\∃ p:Regrown,w''=grow (redrawn w p.d) p.os:=by
 subst hr;exact Calls.regrown_of (Ee c d _)
theorem kF {W W1:World} {v:Value} {l:List C5} {ao:Option Addr} {n c k:Nat} {x:C5} (h:eY W v l) (hv:v=.slice ao n c) (hn:l.length=n) (hk:l[k]?=V x) (hb:Below W.heap.size W W1) :
  ∃ p:Addr,(∀ w,(Instr.indexAt 32 (.slice ao n c) (ah .i64 k)).run O w=.ok (.pointer (V p)) w) /\
   (∀ d os,(grow (redrawn W1 d) os).cell? p=V (Q x.1))/\(∀ d os,(grow (redrawn W1 d) os).cell? ⟨p.block,p.off+1,ak⟩=V (ah .i64 x.2.1))/\(∀ d os,(grow (redrawn W1 d) os).cell? ⟨p.block,p.off+2,ak⟩=V (ah .i64 x.2.2.1))/\(∀ d os,(grow (redrawn W1 d) os).cell? ⟨p.block,p.off+3,ak⟩=V (ah .i64 x.2.2.2.1))/\(∀ d os,(grow (redrawn W1 d) os).cell? ⟨p.block,p.off+4,ak⟩=V (Q x.2.2.2.2)):=by
 obtain⟨p,h1,h2⟩:=Qi h hv hn hk;obtain⟨c0,c1,c2,c3,c4⟩:=h2 _ hb;exact⟨p,h1,cell_regrown c0,cell_regrown c1,cell_regrown c2,cell_regrown c3,cell_regrown c4⟩
theorem kP {W:World} {b:Nat} {c:C5} (h:dI W b (cells5 c).toArray 70):(∀ d os,(grow (redrawn W d) os).cell? ⟨b,0,ak⟩=V (Q c.1))/\(∀ d os,(grow (redrawn W d) os).cell? ⟨b,1,ak⟩=V (ah .i64 c.2.1))/\(∀ d os,(grow (redrawn W d) os).cell? ⟨b,2,ak⟩=V (ah .i64 c.2.2.1))/\(∀ d os,(grow (redrawn W d) os).cell? ⟨b,3,ak⟩=V (ah .i64 c.2.2.2.1))/\(∀ d os,(grow (redrawn W d) os).cell? ⟨b,4,ak⟩=V (Q c.2.2.2.2)) :=
 ⟨cell_regrown (h.cell 0),cell_regrown (h.cell 1),cell_regrown (h.cell 2),cell_regrown (h.cell 3),cell_regrown (h.cell 4)⟩
theorem KZ (v:Value) (l:List Cn) (c:Cn) (w:World) (hv:eY w v (l.map r5)) (hr:iP l) (hl:l.length<=100) :
  Calls O 178 #[v,cv (r5 c),.func (.func 179) #[] #[]] w fun e w'=>e=U (.tuple #[ah .i64 (iU l c.1),.bool (iY l c.1)])/\Below w.heap.size w w':=by
 have HL:=D hv;have HR:=D hr;have LN:=D (show (l.map r5).length=l.length from aj ..);have BX:=D (dL w (cells5 (r5 c)).toArray 70);have B1:=D ((Below.refl w.heap.size w).alloc (K _) (.cells (cells5 (r5 c)).toArray 70));obtain⟨ao,ac,rfl⟩:=hv.len;rw [aj] at HL ⊢;obtain⟨n,hn⟩:∃ n,n=l.length:=⟨_,rfl⟩;rw [<- hn] at HL hl ⊢;have HN:=D hn;obtain⟨cnt,hc⟩:∃ k,k=iU l c.1:=⟨_,rfl⟩;obtain⟨th,ht⟩:∃ k,k=iY l c.1:=⟨_,rfl⟩;rw [<- hc,<- ht];have HC:=D hc;have HT:=D ht;clear hv hr hn hc ht;go_enter Tryz.func178,Tryz.ntmps178;go_wp2;change Code.wp _ _ _ _ (w.alloc (.cells (cells5 (r5 c)).toArray 70));generalize w.alloc (.cells (cells5 (r5 c)).toArray 70)=w1 at *
 go_loopg [9,10] n (fun kx s9 s10 wr=>∃ lo hi:Nat,s9=ah .i64 lo/\s10=ah .i64 hi/\lo<=hi/\hi<=n/\hi-lo<=kx/\Below w.heap.size w wr/\dI wr w.heap.size (cells5 (r5 c)).toArray 70 /\
  (∀ (t:Nat) (y:Cn),t<lo->l[t]?=V y->J y.1.toList c.1.toList=true)/\(∀ (t:Nat) (y:Cn),hi<=t->l[t]?=V y->J y.1.toList c.1.toList=false))
 case atStart=>exact⟨0,n,rfl,rfl,Nat.zero_le _,K _,by omega,B1.out,BX.out,fun t y h=>by omega,fun t y h1 h2=>by have:=(List.getElem?_eq_some_iff.1 h2).1; have:=HN.out; omega⟩
 case round =>
  clear B1 BX;obtain⟨lo,hi,rfl,rfl,hlh,hin,hg,hb,hx,ha,hz⟩:=hrel;have B:=D hb;have X:=D hx;have AL:=D ha;have ZL:=D hz;clear hb hx ha hz;by_cases hlt:lo<hi
  ·obtain⟨y,hy⟩:∃ y,l[(lo+hi) / 2]?=V y:=⟨_,L (by have:=HN.out; omega)⟩;obtain⟨p,ix,p0,p1,p2,p3,p4⟩:=kF (x:=r5 y) HL.out rfl (LN.out.trans HN.out.symm) (by rw [Z,hy]; rfl) B.out;obtain⟨b0,b1,b2,b3,b4⟩:=kP X.out;obtain⟨r,hr⟩:∃ r,zG y.1 c.1=r:=⟨_,rfl⟩;have C:=yu (r5 y) (r5 c) r hr wr;have LE:=D (show decide (r<0)=J y.1.toList c.1.toList by rw [<- hr]; exact I6 _ _);have Y:=D hy;simp only [r5] at p0 p1 p2 p3 p4 b0 b1 b2 b3 b4 C ⊢;clear hy hr;have e23:((lo:Int)+(hi:Int)) / 2=(((lo+hi) / 2:Nat):Int):=by omega
   generalize hm:(lo+hi) / 2=m at *;have BN:=D (fun dq osq=>B.out.trans ((below_regrown wr dq osq).mono B.out.size));have XN:=D (fun dq osq=>X.out.on (below_regrown wr dq osq));by_cases hneg:r<0
   ·have d0:decide (r<0)=true:=by simpa using hneg
    have LT:=D (show J y.1.toList c.1.toList=true by rw [<- LE.out]; exact d0);go_wp2;refine wp_region_quiet_below (by kernel_rfl) (by kernel_rfl) ?_
    repeat (go_big_quiet_step (first | (with_reducible exact C _ _) | exact og _ _))
    refine wpQuiet_nil ?_;intro _ hw';obtain⟨⟨dq,osq⟩,hw''⟩:=hw';subst hw'';clear ix p0 p1 p2 p3 p4 b0 b1 b2 b3 b4 C;go_wp2
    go_roundg (hi-(m+1))
    case measure=>omega
    case rel=>exact⟨m+1,hi,by go_num,rfl,by omega,hin,K _,BN.out _ _,XN.out _ _,fun t z h1 h2=>by
     rcases Nat.lt_or_ge t m with h3|h3
     ·exact yj HR.out (by omega) h2 Y.out LT.out
     ·obtain rfl:t=m:=by omega
      rw [Y.out] at h2;rw [<- Option.some.inj h2];exact LT.out,ZL.out⟩
   ·have d0:decide (r<0)=false:=by simpa using hneg
    have LT:=D (show J y.1.toList c.1.toList=false by rw [<- LE.out]; exact d0);go_wp2;refine wp_region_quiet_below (by kernel_rfl) (by kernel_rfl) ?_
    repeat (go_big_quiet_step (first | (with_reducible exact C _ _) | exact og _ _))
    refine wpQuiet_nil ?_;intro _ hw';obtain⟨⟨dq,osq⟩,hw''⟩:=hw';subst hw'';clear ix p0 p1 p2 p3 p4 b0 b1 b2 b3 b4 C;go_wp2
    go_roundg (m-lo)
    case measure=>omega
    case rel=>exact⟨lo,m,rfl,rfl,by omega,by omega,K _,BN.out _ _,XN.out _ _,AL.out,fun t z h1 h2=>by
     cases h:J z.1.toList c.1.toList
     ·rfl
     ·have:=yj HR.out h1 Y.out h2 h;rw [LT.out] at this;cases this⟩
  ·obtain rfl:hi=lo:=by omega
   have E:=D (Gc l c.1 hi (by have:=HN.out; omega) AL.out (fun z hz=>ZL.out hi z (K _) hz));by_cases hn:hi<n
   ·obtain⟨y,hy⟩:∃ y,l[hi]?=V y:=⟨_,L (by have:=HN.out; omega)⟩;obtain⟨p,ix,p0,p1,p2,p3,p4⟩:=kF (x:=r5 y) HL.out rfl (LN.out.trans HN.out.symm) (by rw [Z,hy]; rfl) B.out;obtain⟨b0,b1,b2,b3,b4⟩:=kP X.out;obtain⟨r,hr⟩:∃ r,zG y.1 c.1=r:=⟨_,rfl⟩;have C:=yu (r5 y) (r5 c) r hr wr;have TH:=D (show th=(r == 0) by
     rw [HT.out,iY,E.out,hy,Bool.eq_iff_iff,beq_iff_eq,<- hr,I7,decide_eq_true_eq])
    simp only [r5] at p0 p1 p2 p3 p4 b0 b1 b2 b3 b4 C ⊢;have BN:=D (fun dq osq=>B.out.trans ((below_regrown wr dq osq).mono B.out.size));have CE:=D (show cnt=hi by rw [HC.out,E.out]);clear hy hr hlt;have g4:decide ((hi:Int)<(n:Int))=true:=by simp; omega
    go_wp2;refine wp_region_quiet_below (by kernel_rfl) (by kernel_rfl) ?_
    repeat (go_big_quiet_step (first | (with_reducible exact C _ _) | exact og _ _))
    refine wpQuiet_nil ?_;intro _ hw';obtain⟨⟨dq,osq⟩,hw''⟩:=hw';subst hw'';clear ix p0 p1 p2 p3 p4 b0 b1 b2 b3 b4 C;go_wp2
    go_ret2
    exact⟨by rw [TH.out,CE.out]; rfl,BN.out _ _⟩
   ·have TH:=D (show th=false by
     rw [HT.out,iY,E.out,List.getElem?_eq_none (by have:=HN.out; omega)])
    have CE:=D (show cnt=hi by rw [HC.out,E.out]);have BN:=D (fun dq osq=>B.out.trans ((below_regrown wr dq osq).mono B.out.size));have g4:decide ((hi:Int)<(n:Int))=false:=by simp; omega
    clear hlt;go_wp2;refine wp_region_quiet_below (by kernel_rfl) (by kernel_rfl) ?_
    repeat (go_big_quiet_step (first | (with_reducible exact C _ _) | exact og _ _))
    refine wpQuiet_nil ?_;intro _ hw';obtain⟨⟨dq,osq⟩,hw''⟩:=hw';subst hw'';go_wp2
    go_ret2
    exact⟨by rw [TH.out,CE.out]; rfl,BN.out _ _⟩
end Pr
end Go.Proofs.YtmklifheakemeaaGreat
