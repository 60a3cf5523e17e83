/-
  Messages and Outs of. Conditions as told.
-/
import Derived.Test.YtkcfgbddlpomgaaGreatDQ022
import Derived.Test.YtkcfgbddlpomgaaGreatDQ031
import Derived.Test.YtkcfgbddlpomgaaGreatDQ033
set_option maxRecDepth 100000
set_option maxHeartbeats 64000000
open _root_.Bool renaming false->aJ,true->aW,and_eq_true->bO
open _root_.Go renaming below_regrown->ak,cell_regrown->aB,World->aM,Value->aP,bodyPost_ret->bD,Calls->bH,redrawn->bL,Addr->bN
open Go.Act renaming eval->aG,put->cB
open Go.Builtin renaming append_->aA
open Go.Ending renaming returned->aT
open Go.Instr renaming indexAt->bF
open Go.IntKind renaming i64->X
open Go.Lib renaming hid->O
open Go.Obj renaming cells->aD
open Go.Operand renaming tmp->aH
open Go.Proofs.Tryz renaming prog->ay,results63->bV,results44->bW,func58->cK
open Go.Proofs.YtkcfgbddlpomgaaGreat.Rg renaming dw->bf,dY->bU,get_put->cO,dP->cZ,gL->dh,dI->dn
open Go.Proofs.YtkcfgbddlpomgaaGreat.Rw.Row renaming dx->aX
open Go.RowKit.Below renaming refl->ah
open Go.Value renaming slice->J,int->V,string->au,pointer->aC,bool->aS,agg->bg
open _root_.List renaming getElem?_eq_getElem->aj,length_map->aF,getElem?_map->aK,getElem?_cons_zero->aN,mem_of_getElem?->aO,getElem?_toArray->aQ,getElem?_cons_succ->aU,length_append->aY,map_cons->bG,map_append->bI,map_toArray->bP,length_take->bQ,length_drop->bR,mem_append->bS,map_take->bY,map_drop->bZ,map_nil->cu
open _root_.Nat renaming le_refl->aI,le_trans->aL,le_succ->aV,zero_le->aZ,lt_of_lt_of_le->bE,le_of_lt->bJ
open _root_.Option renaming some->Y,none->Z
open Option.some renaming inj->bn,injEq->bK
open _root_.Or renaming inr->aR
namespace Go.Proofs.YtkcfgbddlpomgaaGreat
namespace Ca
open Go.RowKit Go.Sort Rw YtkcfgbddlpomgaaGreat.Nm Pr Bk Rl
def Qb (W:aM) (x:nC) (o:Ou×List An):Prop:=x.1=o.1.gV/\x.2.1=o.1.kind/\(x.2.2.1,x.2.2.2.1)=o.1.tree/\(x.2.2.2.2.1,x.2.2.2.2.2.1)=o.1.id/\fK W (dR x.2.2.2.2.2.2.1) o.1.p/\sZ W (dR x.2.2.2.2.2.2.2) o.2
theorem Qb.on {W W':aM} {x:nC} {o:Ou×List An} (h:Qb W x o) (hb:Below W.heap.size W W'):Qb W' x o:=⟨h.1,h.2.1,h.2.2.1,h.2.2.2.1,h.2.2.2.2.1.on hb,h.2.2.2.2.2.on hb⟩
theorem Ol (x:At.A4):At.Eb x x=aW:=by simp [At.Eb]
theorem _root_.Go.Proofs.YtkcfgbddlpomgaaGreat.At.uz:∀ l:List At.A4,At.lN l l=aW
 | []=>rfl
 | x::l=>by
  have h:=At.uz l;simp [At.lN,Ol,h]
theorem Om (k c d g h:Int) (po:Option bN) (pn pc:Nat) (qo:Option bN) (qn qc:Nat) (ro:Option bN) (rn rc:Nat) (so:Option bN) (sn sc:Nat) (p:List C5) (YI:List An) (w:aM) (hp:fK w (J po pn pc) p) (hq:fK w (J qo qn qc) p) (hl:p.length<=1000) (hr:sZ w (J ro rn rc) YI) (hs:sZ w (J so sn sc) YI) (hal:YI.length<=1000) :
  bH ay 38 #[bg #[V X k,V X c,V X d,V X g,V X h,J po pn pc,J ro rn rc],bg #[V X k,V X c,V X d,V X g,V X h,J qo qn qc,J so sn sc]] w fun e w'=>e=aT (aS aW)/\Below w.heap.size w w':=by
 obtain⟨NB,K1,K2⟩:=gK w #[V X k,V X c,V X d,V X g,V X h,J po pn pc,J ro rn rc] #[V X k,V X c,V X d,V X g,V X h,J qo qn qc,J so sn sc] 43 43;have B2:=O NB;have X1:=O K1;have X2:=O K2;have e1:=rz c d c d aW (by simp);have e2:=rz g h g h aW (by simp);have SP:=O (fun w' (hb:Below _ _ w')=>Ni _ _ p p w' ((hp.on NB).on hb) ((hq.on NB).on hb) (by omega) (by omega));have SS:=O (show kE p p=aW from (BP p p).2 rfl);have HR:=O (hr.on NB);have HS:=O (hs.on NB);have HA:=O hal;have SA:=O (show At.lN YI YI=aW from At.uz YI);clear NB K1 K2 hp hq hl hr hs hal;go_enter Tryz.func38,Tryz.ntmps38;go_upto_region 1 with fail;generalize (w.alloc (aD #[V X k,V X c,V X d,V X g,V X h,J po pn pc,J ro rn rc] 43)).alloc (aD #[V X k,V X c,V X d,V X g,V X h,J qo qn qc,J so sn sc] 43)=W at *;obtain⟨x0,x1,x2,x3,x4,x5,x6⟩:=X1.out.mU;obtain⟨y0,y1,y2,y3,y4,y5,y6⟩:=X2.out.mU;go_wp2_with fail;refine (SP.out _ (ah _ _)).mono ?_;rw [SS.out];rintro e3 w3 ⟨rfl,hb⟩;have B3:=O (B2.out.trans (hb.mono B2.out.size));have Y1:=X1.out.on hb;have Y2:=X2.out.on hb;have c4:=Y1.cell 6;have d4:=Y2.cell 6;simp at c4 d4;have SL:=O (At.Cv _ _ YI YI w3 (yU.2 (HR.out.on hb)) (yU.2 (HS.out.on hb)) (by have:=HA.out; omega) (by have:=HA.out; omega));clear hb SP X1 X2 Y1 Y2 B2 x0 x1 x2 x3 x4 x5 x6 y0 y1 y2 y3 y4 y5 y6;go_wp2_with fail;refine SL.out.mono ?_;rw [SA.out];rintro e4 w4 ⟨rfl,hb⟩;have B4:=O (B3.out.trans (hb.mono B3.out.size));clear hb SL B3;go_wp2_with fail;go_ret;exact⟨rfl,B4.out⟩
theorem Oo (qZ bv:aP) (l m:List nC) (L:List (Ou×List An)) (w:aM) (ha:AX w qZ l) (hb:AX w bv m) (ua:eB (Qb w) l L) (ub:eB (Qb w) m L) (sa:∀ o∈L,o.1.p.length<=1000/\o.2.length<=1000) (hl:L.length<=1000000) :
  bH ay 13 #[qZ,bv] w fun e w'=>e=aT (aS aW)/\Below w.heap.size w w':=by
 have UA:=O ua;have UB:=O ub;have SH:=O sa;have HA:=O ha;have HB:=O hb;obtain⟨ao,ac,rfl⟩:=ha.len;obtain⟨bo,bc,rfl⟩:=hb.len;have hlm:m.length=l.length:=by rw [ua.len,ub.len]
 rw [hlm] at HB ⊢;have HL:=O hlm;have hl2:l.length<=1000000:=by rw [ua.len]; exact hl
 obtain⟨n,hn⟩:∃ n,n=l.length:=⟨_,rfl⟩;simp only [<- hn] at HA HB hl2 ⊢;have HN:=O hn.symm;clear ua ub sa ha hb hlm hn hl;go_enter Tryz.func13,Tryz.ntmps13;go_wp2
 go_loopw [13] (fun i wr=>∃ k:Nat,k<=n/\i=V X k/\Below w.heap.size w wr) (fun i _=>n-(intOf i).toNat)
 case atStart=>exact⟨0,aZ _,rfl,ah _ _⟩
 case round =>
  obtain⟨k,hk,rfl,hbe⟩:=hrel;have BE:=O hbe;clear hbe;by_cases hlt:k<n
  ·obtain⟨x,hx⟩:∃ x,l[k]?=Y x:=⟨_,aj (by rw [HN.out]; exact hlt)⟩;obtain⟨y,hy⟩:∃ y,m[k]?=Y y:=⟨_,aj (by rw [HL.out,HN.out]; exact hlt)⟩;obtain⟨p,ix,px⟩:=elU HA.out rfl HN.out hx;obtain⟨q,iy,py⟩:=elU HB.out rfl (HL.out.trans HN.out) hy;obtain⟨sx,hsx,ix_⟩:=sF UA.out k x hx;obtain⟨sy,hsy,iy_⟩:=sF UB.out k y hy;rw [hsx] at hsy;obtain rfl:=bn hsy;obtain⟨x1,x2,x3,x4,x5,x6,⟨xo,xn,xc⟩,⟨x8,x9,x10⟩⟩:=x;obtain⟨y1,y2,y3,y4,y5,y6,⟨yo,yn,yc⟩,⟨y8,y9,y10⟩⟩:=y;obtain⟨⟨gV,kd,⟨t1,t2⟩,⟨i1,i2⟩,sp⟩,sa⟩:=sx;obtain⟨h1,h2,h3,h4,rx,h6⟩:=ix_;obtain⟨g1,g2,g3,g4,ry,g6⟩:=iy_;simp only [Prod.mk.injEq] at h1 h2 h3 h4 g1 g2 g3 g4;obtain⟨rfl,rfl⟩:=h3;obtain⟨rfl,rfl⟩:=h4;obtain⟨rfl,rfl⟩:=g3;obtain⟨rfl,rfl⟩:=g4;subst h1 h2 g1 g2;simp only at px py;have p0:=aB (px _ BE.out).1;have p1:=aB (px _ BE.out).2.1;have p2:=aB (px _ BE.out).2.2.1;have p3:=aB (px _ BE.out).2.2.2.1;have p4:=aB (px _ BE.out).2.2.2.2.1;have p5:=aB (px _ BE.out).2.2.2.2.2.1;have p6:=aB (px _ BE.out).2.2.2.2.2.2.1;have p7:=aB (px _ BE.out).2.2.2.2.2.2.2;have q0:=aB (py _ BE.out).1;have q1:=aB (py _ BE.out).2.1;have q2:=aB (py _ BE.out).2.2.1;have q3:=aB (py _ BE.out).2.2.2.1;have q4:=aB (py _ BE.out).2.2.2.2.1;have q5:=aB (py _ BE.out).2.2.2.2.2.1;have q6:=aB (py _ BE.out).2.2.2.2.2.2.1;have q7:=aB (py _ BE.out).2.2.2.2.2.2.2;have CS:=O (fun d os=>Calls.regrown_of (d:=d) (os:=os) (Om y2 y3 y4 y5 y6 xo xn xc yo yn yc x8 x9 x10 y8 y9 y10 sp sa _ ((rx.on BE.out).on (ak wr d os)) ((ry.on BE.out).on (ak wr d os)) (SH.out _ (aO hsx)).1 ((h6.on BE.out).on (ak wr d os)) ((g6.on BE.out).on (ak wr d os)) (SH.out _ (aO hsx)).2));have hne:(y1 != y1)=aJ:=by simp
   have hw3:IntKind.i64.wrap ((k:Int)+1)=(k:Int)+1:=IntWalk.i64_in _ (by omega);clear px py hx hy hsx rx ry h6 g6;go_wp2;refine wp_region_quiet_below (by kernel_rfl) (by kernel_rfl) ?_
   repeat (go_big_quiet_step (first | (with_reducible exact CS.out _ _)))
   refine wpQuiet_nil ?_;intro _ hw';obtain⟨⟨dq,osq⟩,hw''⟩:=hw';subst hw'';clear ix iy p0 q0 p1 q1 p2 q2 p3 q3 p4 q4 p5 q5 p6 q6 p7 q7 hne;go_wp2
   go_roundw
   case rel=>exact⟨k+1,by omega,by go_num,BE.out.trans ((ak wr dq osq).mono BE.out.size)⟩
   case measure=>simp [intOf]; omega
  ·obtain rfl:k=n:=by omega
   go_wp2;go_ret;exact⟨rfl,BE.out⟩
def SF (W:aM) (x:xM) (o:(Int×eO)×List An):Prop:=x.1=o.1.1/\(x.2.1,x.2.2.1)=o.1.2/\sZ W (dR x.2.2.2) o.2
theorem SF.on {W W':aM} {x:xM} {o:(Int×eO)×List An} (h:SF W x o) (hb:Below W.heap.size W W'):SF W' x o:=⟨h.1,h.2.1,h.2.2.on hb⟩
theorem JQ (qZ bv:aP) (l:List An) (w:aM) (ha:sZ w qZ l) (hb:sZ w bv l) (hl:l.length<=1000) :
  bH ay 39 #[qZ,bv] w fun e w'=>e=aT (aS aW)/\Below w.heap.size w w':=by
 have h:=At.Cv qZ bv l l w (yU.2 ha) (yU.2 hb) (by omega) (by omega);rw [At.uz l] at h;exact h
theorem adJ (c d:Int) (w:aM):(binOp .neq 38 (bg #[V X c,V X d]) (bg #[V X c,V X d])).run ay w=.ok (aS aJ) w:=by
 have st:Tryz.prog.stoodInHeld 38=aJ:=by kernel_rfl
 simp [go_sem,Tryz.underlying38,Tryz.underlying3,st]
theorem He (qZ bv:aP) (l m:List xM) (L:List ((Int×eO)×List An)) (w:aM) (ha:NM w qZ l) (hb:NM w bv m) (ua:eB (SF w) l L) (ub:eB (SF w) m L) (sa:∀ o∈L,o.2.length<=1000) (hl:L.length<=1000000) :
  bH ay 14 #[qZ,bv] w fun e w'=>e=aT (aS aW)/\Below w.heap.size w w':=by
 have UA:=O ua;have UB:=O ub;have SH:=O sa;have HA:=O ha;have HB:=O hb;obtain⟨ao,ac,rfl⟩:=ha.len;obtain⟨bo,bc,rfl⟩:=hb.len;have hlm:m.length=l.length:=by rw [ua.len,ub.len]
 rw [hlm] at HB ⊢;have HL:=O hlm;have hl2:l.length<=1000000:=by rw [ua.len]; exact hl
 obtain⟨n,hn⟩:∃ n,n=l.length:=⟨_,rfl⟩;simp only [<- hn] at HA HB hl2 ⊢;have HN:=O hn.symm;clear ua ub sa ha hb hlm hn hl;go_enter Tryz.func14,Tryz.ntmps14;go_wp2
 go_loopw [13] (fun i wr=>∃ k:Nat,k<=n/\i=V X k/\Below w.heap.size w wr) (fun i _=>n-(intOf i).toNat)
 case atStart=>exact⟨0,aZ _,rfl,ah _ _⟩
 case round =>
  obtain⟨k,hk,rfl,hbe⟩:=hrel;have BE:=O hbe;clear hbe;by_cases hlt:k<n
  ·obtain⟨x,hx⟩:∃ x,l[k]?=Y x:=⟨_,aj (by rw [HN.out]; exact hlt)⟩;obtain⟨y,hy⟩:∃ y,m[k]?=Y y:=⟨_,aj (by rw [HL.out,HN.out]; exact hlt)⟩;obtain⟨p,ix,px⟩:=elG HA.out rfl HN.out hx;obtain⟨q,iy,py⟩:=elG HB.out rfl (HL.out.trans HN.out) hy;obtain⟨sx,hsx,ix_⟩:=sF UA.out k x hx;obtain⟨sy,hsy,iy_⟩:=sF UB.out k y hy;rw [hsx] at hsy;obtain rfl:=bn hsy;obtain⟨x1,x2,x3,⟨x8,x9,x10⟩⟩:=x;obtain⟨y1,y2,y3,⟨y8,y9,y10⟩⟩:=y;obtain⟨⟨c_,⟨i1,i2⟩⟩,sa⟩:=sx;obtain⟨h1,h2,h6⟩:=ix_;obtain⟨g1,g2,g6⟩:=iy_;simp only [Prod.mk.injEq] at h1 h2 g1 g2;obtain⟨rfl,rfl⟩:=h2;obtain⟨rfl,rfl⟩:=g2;subst h1 g1;simp only at px py;have p0:=aB (px _ BE.out).1;have p1:=aB (px _ BE.out).2.1;have p2:=aB (px _ BE.out).2.2.1;have p3:=aB (px _ BE.out).2.2.2;have q0:=aB (py _ BE.out).1;have q1:=aB (py _ BE.out).2.1;have q2:=aB (py _ BE.out).2.2.1;have q3:=aB (py _ BE.out).2.2.2;have CS:=O (fun d os=>Calls.regrown_of (d:=d) (os:=os) (JQ (J x8 x9 x10) (J y8 y9 y10) sa _ ((h6.on BE.out).on (ak wr d os)) ((g6.on BE.out).on (ak wr d os)) (SH.out _ (aO hsx))));have en:=adJ y2 y3;have hne:(y1 != y1)=aJ:=by simp
   have hw3:IntKind.i64.wrap ((k:Int)+1)=(k:Int)+1:=IntWalk.i64_in _ (by omega);clear px py hx hy hsx h6 g6;go_wp2;refine wp_region_quiet_below (by kernel_rfl) (by kernel_rfl) ?_
   repeat (go_big_quiet_step (first | (with_reducible exact CS.out _ _)))
   refine wpQuiet_nil ?_;intro _ hw';obtain⟨⟨dq,osq⟩,hw''⟩:=hw';subst hw'';clear ix iy p0 q0 p1 q1 p2 q2 p3 q3 hne en;go_wp2
   go_roundw
   case rel=>exact⟨k+1,by omega,by go_num,BE.out.trans ((ak wr dq osq).mono BE.out.size)⟩
   case measure=>simp [intOf]; omega
  ·obtain rfl:k=n:=by omega
   go_wp2;go_ret;exact⟨rfl,BE.out⟩
end Ca
namespace Bk
open Go.RowKit Go.Sort Rw YtkcfgbddlpomgaaGreat.Nm Pr Rl
theorem rP {α:Type} {E:Ek α} {W:aM} {so:Option bN} {sn sc:Nat} {l:List α} (h:Row E W (J so sn sc) l):l.length=sn:=by
 obtain⟨a,c,hv⟩:=h.len;simp only [Value.slice.injEq] at hv;exact hv.2.1.symm
end Bk
namespace Av
open Go.RowKit Rw YtkcfgbddlpomgaaGreat.Nm Pr Wr
theorem abo (c:Cn) (h:Bv c=aW):NU (r5 c)=aW:=by
 obtain⟨n,k⟩:=c;unfold Bv at h;rw [bO] at h;obtain⟨h1,h2⟩:=h;have h1':At.FV n=aW:=h1;cases k with
 | rg lo hi =>
  have h3:lo<=hi:=by simpa [iZ] using h2
  have h0:(⟨#[]⟩:ByteArray).size=0:=rfl;simp [r5,NU,kN,jk,jl,kT,h1',h3,h0]
 | tx t =>
  have h3:t.size<=12:=by simpa [iZ] using h2
  simp [r5,NU,kN,jk,jl,kT,h1',h3]
 | pr t =>
  have h3:t.size<12:=by simpa [iZ] using h2
  have h4:t.size<=11:=by omega
  simp [r5,NU,kN,jk,jl,kT,h1',h4]
theorem Hf (l:List C5) (h1:l.Pairwise fun x y=>Op.bytesLess x.1.toList y.1.toList=aW) (h2:l.length<=5) (h3:∀ c∈l,NU c=aW):iX l=aW:=by
 rw [JE l fun j hj=>?_]
 ·simpa using h2
 unfold Q9;rw [aj hj];simp only [bO];refine⟨h3 _ (List.getElem_mem hj),?_⟩;cases j with
 | zero=>rfl
 | succ j =>
  rw [Bool.or_eq_true];right;rw [Nat.add_sub_cancel,aj (by omega)];exact List.pairwise_iff_getElem.1 h1 j (j+1) (by omega) hj (by omega)
theorem JR (has vals:List Int):iX ((o7 has vals 7).map r5)=aW:=by
 have h:=QH has vals;refine Hf _ ?_ (by rw [aF]; exact h.five) fun c hc=>?_
 ·rw [List.pairwise_map];exact h.rise
 ·obtain⟨x,hx,rfl⟩:=List.mem_map.1 hc;exact abo x (h.good x hx)
end Av
namespace Bk
open Go.RowKit Go.Sort Rw YtkcfgbddlpomgaaGreat.Nm Pr
def oV (W:Nat) (bv:aP) (c d c2 d2:Int) (av:aP) (ki:Nat) (p:bN) (gV:Int) (po:Option bN) (pn pc:Nat) (fr:Int) (up:Bool) (b3 b5:Nat) (i:Nat) (v:aP) (x:aM):Prop :=
 match i with
 | 0=>v=bv
 | 1=>v=aC (Y ⟨b3,2,Z⟩)
 | 2=>v=av
 | 3=>v=bv
 | 4=>v=aC (Y ⟨b5,1,Z⟩)
 | 5=>v=mD (c,d)
 | 6=>v=V X (ki:Int)
 | 7=>v=aC (Y p)
 | 8=>v=aC (Y ⟨p.block,p.off+3,Z⟩)
 | 9=>v=V X gV
 | 10=>v=qR (c,d,c2,d2,(po,pn,pc),fr,up)
 | 11=>v=bg #[V X 3,V X c,V X d,V X c2,V X d2,J po pn pc,J Z 0 0]
 | 12=>v=yS (gV,3,c,d,c2,d2,(po,pn,pc),(Z,0,0))
 | 13=>jd x W v [(gV,3,c,d,c2,d2,(po,pn,pc),(Z,0,0))]
 | 15=>jd x W v [(gV,3,c,d,c2,d2,(po,pn,pc),(Z,0,0))]
 | _=>True
def oF (W:aM) (b6:Nat) (bc:Array aP) (D:Nat->Prop) (x:aM):Prop :=
 (∀ j,j<W.heap.size->j≠b6->x.heap[j]?=W.heap[j]?)/\(∀ B,B<=b6->Below B W x)/\(¬ D 14->Below W.heap.size W x)/\(D 14->dJ x b6 bc 33)/\W.heap.size<=x.heap.size
noncomputable def YJ:Code:=((Tryz.f63.body.bind (eG 5)).getD .skip)
theorem abp (Q:Exit->Act->aM->Prop) (W:aM) (b3 b5 b6 b8:Nat) (me mk c d c2 d2 fr gV:Int) (up:Bool) (o1 o2 o3 o4 o5:Option bN) (n1 k1 n2 k2 n3 k3 n4 k4 n5 k5:Nat) (po qo:Option bN) (pn pc qn qc:Nat) (ad:List jD) (ki:Nat) (p:bN) (z0 z1 z2 z3 z4 z5:aP) (u0 u1 u2 u4 u7 u9 u10 u11 u12 u13 u14 u15 u16 u17 u18 u19 u20 u21 u22 u23 u24 u25 u26 u27 u28 u29 u30 u31 u32 u33 u34 u35 u36 u37 u38 u39 u40:aP)
  (h3:dJ W b3 #[V X me,J o1 n1 k1,J o2 n2 k2,J o3 n3 k3,J o4 n4 k4,J o5 n5 k5] 33) (h5:dJ W b5 #[V X mk,V X c,V X d,V X c2,V X d2,J po pn pc,J qo qn qc] 43) (h6:dJ W b6 #[z0,z1,z2,z3,z4,z5] 33) (h8:dJ W b8 #[V X c,V X d,V X c2,V X d2,J po pn pc,V X fr,aS up] 68) (n3_:b3≠b6) (n5_:b5≠b6) (n8_:b8≠b6) (hd:uI W (J o2 n2 k2) ad) (fk:fG (ad.map fun y=>(y.1,y.2.1)) (c,d)=ki) (ix:∀ w,(bF 28 (J o2 n2 k2) (V X (ki:Int))).run ay w=.ok (aC (Y p)) w) (px:W.cell? ⟨p.block,p.off+3,Z⟩=Y (V X gV)) (pl:p.block<W.heap.size) (pn_:p.block≠b6)
  (hQ:∀ (a:Act) (x:aM) (sl:Sl),a.defers=[]->a.tmps[6]?=Y (aC (Y ⟨b6,0,Z⟩))->a.tmps[7]?=Y (dR sl)->dJ x b6 #[V X me,J o1 n1 k1,J o2 n2 k2,J o3 n3 k3,J o4 n4 k4,J o5 n5 k5] 33->jd x W.heap.size (dR sl) [(gV,3,c,d,c2,d2,(po,pn,pc),(Z,0,0))]->(∀ k,k<W.heap.size->k≠b6->x.heap[k]?=W.heap[k]?)->(∀ B,B<=b6->Below B W x)->Q .normal a x) :
  Code.wp ay YJ Q ⟨(u0::u1::u2::aC (Y ⟨b3,0,Z⟩)::u4::aC (Y ⟨b5,0,Z⟩)::aC (Y ⟨b6,0,Z⟩)::u7::aC (Y ⟨b8,0,Z⟩)::u9::u10::u11::u12::u13::u14::u15::u16::u17::u18::u19::u20::u21::u22::u23::u24::u25::u26::u27::u28::u29::u30::u31::u32::u33::u34::u35::u36::u37::u38::u39::u40::[]).toArray,[]⟩ W:=by
 have HQ:=O hQ;have H3:=O h3;have H5:=O h5;have H6:=O h6;have H8:=O h8;have N3:=O n3_;have N5:=O n5_;have N8:=O n8_;have HD:=O hd;have FK:=O fk;have IX:=O ix;have PX:=O px;have PL:=O pl;have PN:=O pn_;clear hQ h3 h5 h6 h8 n3_ n5_ n8_ hd fk ix px pl pn_;unfold YJ
 conv=>arg 2; whnf
 have nd:∀ j,(∀ i,i<16->[Y 27,Y 28,Y 29,Y 30,Y 31,Y 32,Y 33,Y 34,Y 35,Y 36,Y 37,Y 38,Y 39,Y 40,Z,Y 7].getD i Z≠Y j)->∀ i,i<16->(fun i=>[Y 27,Y 28,Y 29,Y 30,Y 31,Y 32,Y 33,Y 34,Y 35,Y 36,Y 37,Y 38,Y 39,Y 40,Z,Y 7].getD i Z) i≠Y j:=fun j h=>h;refine Rg.xq 16 (fun i=>[Y 27,Y 28,Y 29,Y 30,Y 31,Y 32,Y 33,Y 34,Y 35,Y 36,Y 37,Y 38,Y 39,Y 40,Z,Y 7].getD i Z) (fun _=>16) (oV W.heap.size (bg #[V X me,J o1 n1 k1,J o2 n2 k2,J o3 n3 k3,J o4 n4 k4,J o5 n5 k5]) c d c2 d2 (J o2 n2 k2) ki p gV po pn pc fr up b3 b5) (oF W b6 #[V X me,J o1 n1 k1,J o2 n2 k2,J o3 n3 k3,J o4 n4 k4,J o5 n5 k5]) (by kernel_rfl) (by kernel_rfl) rfl (fun i j e hi hj h1 h2=>(by decide:∀ i,i<16->∀ j,j<16->([Y 27,Y 28,Y 29,Y 30,Y 31,Y 32,Y 33,Y 34,Y 35,Y 36,Y 37,Y 38,Y 39,Y 40,Z,Y 7].getD i Z).isSome=aW->[Y 27,Y 28,Y 29,Y 30,Y 31,Y 32,Y 33,Y 34,Y 35,Y 36,Y 37,Y 38,Y 39,Y 40,Z,Y 7].getD i Z=[Y 27,Y 28,Y 29,Y 30,Y 31,Y 32,Y 33,Y 34,Y 35,Y 36,Y 37,Y 38,Y 39,Y 40,Z,Y 7].getD j Z->i=j) i hi j hj (by have h1:[Y 27,Y 28,Y 29,Y 30,Y 31,Y 32,Y 33,Y 34,Y 35,Y 36,Y 37,Y 38,Y 39,Y 40,Z,Y 7].getD i Z=Y e:=h1; rw [h1]; rfl) (h1.trans h2.symm)) (fun i e hi h=>(by decide:∀ i,i<16->∀ q∈[Y 27,Y 28,Y 29,Y 30,Y 31,Y 32,Y 33,Y 34,Y 35,Y 36,Y 37,Y 38,Y 39,Y 40,Z,Y 7].getD i Z,q<41) i hi e h) ⟨fun _ _ _=>rfl,fun _ _=>(ah _ _).drew,fun _=>(ah _ _).drew,False.elim,aI _⟩ ?_ ?_
 ·intro i o hi ho a x D hnd hc hD hF seen K hK;clear HQ;have still:∀ i,i≠14->oF W b6 #[V X me,J o1 n1 k1,J o2 n2 k2,J o3 n3 k3,J o4 n4 k4,J o5 n5 k5] (fun j=>j=i\/D j) x:=fun i h9=>⟨hF.1,hF.2.1,fun h=>hF.2.2.1 fun h2=>h (aR h2),fun h=>hF.2.2.2.1 (h.resolve_left (Ne.symm h9)),hF.2.2.2.2⟩;rcases (by omega:i=0\/i=1\/i=2\/i=3\/i=4\/i=5\/i=6\/i=7\/i=8\/i=9\/i=10\/i=11\/i=12\/i=13\/i=14\/i=15) with rfl|rfl|rfl|rfl|rfl|rfl|rfl|rfl|rfl|rfl|rfl|rfl|rfl|rfl|rfl|rfl
  ·cases ho;have e3:a.eval (aH 3)=aC (Y ⟨b3,0,Z⟩):=seen.kp 3 _ (nd 3 (by decide)) rfl;have SG:=show dJ x _ _ _ from (hF.1 _ H3.out.lt N3.out).trans H3.out;exact bf rfl rfl (bU a.eval _ 33 (aH 3) rfl (by rw [e3]; exact wm SG)) (hK _ _ rfl (still 0 (by decide)) fun _ _ _ _ _ _ _ h=>h)
  ·cases ho;have e3:a.eval (aH 3)=aC (Y ⟨b3,0,Z⟩):=seen.kp 3 _ (nd 3 (by decide)) rfl;exact bf rfl rfl (cZ a.eval _ 33 (aH 3) 2 rfl (by rw [e3]; simp [go_sem])) (hK _ _ rfl (still 1 (by decide)) fun _ _ _ _ _ _ _ h=>h)
  ·cases ho;have e28:a.eval (aH 28)=aC (Y ⟨b3,2,Z⟩):=seen.at_ ⟨1,.data⟩ (by simp) rfl (aR (by decide)) _ rfl;have SG:=show dJ x _ _ _ from (hF.1 _ H3.out.lt N3.out).trans H3.out;have y:=SG.cell 2;simp only [aQ,aN,aU] at y;exact bf rfl rfl (bU a.eval _ 28 (aH 28) rfl (by rw [e28]; simp [go_sem,y])) (hK _ _ rfl (still 2 (by decide)) fun _ _ _ _ _ _ _ h=>h)
  ·cases ho;have e3:a.eval (aH 3)=aC (Y ⟨b3,0,Z⟩):=seen.kp 3 _ (nd 3 (by decide)) rfl;have SG:=show dJ x _ _ _ from (hF.1 _ H3.out.lt N3.out).trans H3.out;exact bf rfl rfl (bU a.eval _ 33 (aH 3) rfl (by rw [e3]; exact wm SG)) (hK _ _ rfl (still 3 (by decide)) fun _ _ _ _ _ _ _ h=>h)
  ·cases ho;have e5:a.eval (aH 5)=aC (Y ⟨b5,0,Z⟩):=seen.kp 5 _ (nd 5 (by decide)) rfl;exact bf rfl rfl (cZ a.eval _ 43 (aH 5) 1 rfl (by rw [e5]; simp [go_sem])) (hK _ _ rfl (still 4 (by decide)) fun _ _ _ _ _ _ _ h=>h)
  ·cases ho;have e31:a.eval (aH 31)=aC (Y ⟨b5,1,Z⟩):=seen.at_ ⟨4,.data⟩ (by simp) rfl (aR (by decide)) _ rfl;have adK:=show dJ x _ _ _ from (hF.1 _ H5.out.lt N5.out).trans H5.out;have y1:=adK.cell 1;have y2:=adK.cell 2;simp only [aQ,aN,aU] at y1 y2;exact bf rfl rfl (bU a.eval _ 38 (aH 31) rfl (by rw [e31]; simp [go_sem,y1,y2])) (hK _ _ rfl (still 5 (by decide)) fun _ _ _ _ _ _ _ h=>h)
  ·cases ho;have e30:a.eval (aH 30)=bg #[V X me,J o1 n1 k1,J o2 n2 k2,J o3 n3 k3,J o4 n4 k4,J o5 n5 k5]:=seen.at_ ⟨3,.data⟩ (by simp) rfl (aR (by decide)) _ rfl;have e32:a.eval (aH 32)=mD (c,d):=seen.at_ ⟨5,.data⟩ (by simp) rfl (aR (by decide)) _ rfl;have nS:¬ D 14:=fun h=>hnd (hc 11 _ (hc 14 _ h rfl ⟨11,.chain⟩ (by simp) rfl) rfl ⟨6,.chain⟩ (by simp) rfl);have hb:=hF.2.2.1 nS;have n13:¬ D 13:=fun h=>hnd (hc 11 _ (hc 12 _ (hc 13 _ h rfl ⟨12,.data⟩ (by simp) rfl) rfl ⟨11,.data⟩ (by simp) rfl) rfl ⟨6,.chain⟩ (by simp) rfl);exact dh rfl rfl (q9 a.eval _ (aH 30) (aH 32) 33 38 36 rfl e30 e32 rfl _ (gu Tryz.func36 rfl rfl _ _)) (sw me _ _ _ _ (o2,n2,k2) ad (c,d) x (HD.out.on hb)) fun e w1 h=>by
    obtain⟨rfl,h3⟩:=h;refine⟨_,rfl,hK _ _ (by rw [FK.out]; rfl) ⟨fun j hj hne=>(h3.block j (bE hj hb.size)).trans (hF.1 j hj hne),fun B hB=>(hF.2.1 B hB).trans (h3.mono (aL (aL hB (bJ H6.out.lt)) hb.size)),fun _=>hb.trans (h3.mono hb.size),fun h=>absurd (h.resolve_left (by decide)) nS,aL hb.size h3.size⟩ fun j u hj dj _ _ _ h=>?_⟩;rcases (by omega:j=0\/j=1\/j=2\/j=3\/j=4\/j=5\/j=6\/j=7\/j=8\/j=9\/j=10\/j=11\/j=12\/j=13\/j=14\/j=15) with rfl|rfl|rfl|rfl|rfl|rfl|rfl|rfl|rfl|rfl|rfl|rfl|rfl|rfl|rfl|rfl
    ·exact h
    ·exact h
    ·exact h
    ·exact h
    ·exact h
    ·exact h
    ·exact h
    ·exact h
    ·exact h
    ·exact h
    ·exact h
    ·exact h
    ·exact h
    ·exact absurd dj n13
    ·exact h
    ·exact absurd (hc 15 _ dj rfl ⟨13,.data⟩ (by simp) rfl) n13
  ·cases ho;have e29:a.eval (aH 29)=J o2 n2 k2:=seen.at_ ⟨2,.data⟩ (by simp) rfl (aR (by decide)) _ rfl;have e33:a.eval (aH 33)=V X (ki:Int):=seen.at_ ⟨6,.data⟩ (by simp) rfl (aR (by decide)) _ rfl;exact bf rfl rfl (Rg.nN a.eval _ 28 (aH 29) (aH 33) rfl (by rw [e29,e33]; exact IX.out x)) (hK _ _ rfl (still 7 (by decide)) fun _ _ _ _ _ _ _ h=>h)
  ·cases ho;have e34:a.eval (aH 34)=aC (Y p):=seen.at_ ⟨7,.data⟩ (by simp) rfl (aR (by decide)) _ rfl;exact bf rfl rfl (cZ a.eval _ 53 (aH 34) 2 rfl (by rw [e34]; simp [go_sem])) (hK _ _ rfl (still 8 (by decide)) fun _ _ _ _ _ _ _ h=>h)
  ·cases ho;have e35:a.eval (aH 35)=aC (Y ⟨p.block,p.off+3,Z⟩):=seen.at_ ⟨8,.data⟩ (by simp) rfl (aR (by decide)) _ rfl;have y:x.cell? ⟨p.block,p.off+3,Z⟩=Y (V X gV):=by
    have h:=PX.out;unfold World.cell? at h ⊢;rw [hF.1 _ PL.out PN.out];exact h
   exact bf rfl rfl (bU a.eval _ 3 (aH 35) rfl (by rw [e35]; simp [go_sem,y])) (hK _ _ rfl (still 9 (by decide)) fun _ _ _ _ _ _ _ h=>h)
  ·cases ho;have e8:a.eval (aH 8)=aC (Y ⟨b8,0,Z⟩):=seen.kp 8 _ (nd 8 (by decide)) rfl;have agn:=show dJ x _ _ _ from (hF.1 _ H8.out.lt N8.out).trans H8.out;obtain⟨y0,y1,y2,y3,y4,y5,y6⟩:=agn.mU;exact bf rfl rfl (bU a.eval _ 68 (aH 8) rfl (by rw [e8]; simp [go_sem,y0,y1,y2,y3,y4,y5,y6])) (hK _ _ rfl (still 10 (by decide)) fun _ _ _ _ _ _ _ h=>h)
  ·cases ho;have e37:a.eval (aH 37)=qR (c,d,c2,d2,(po,pn,pc),fr,up):=seen.at_ ⟨10,.data⟩ (by simp) rfl (aR (by decide)) _ rfl;have nS:¬ D 14:=fun h=>hnd (hc 14 _ h rfl ⟨11,.chain⟩ (by simp) rfl);have hb:=hF.2.2.1 nS;have n13:¬ D 13:=fun h=>hnd (hc 12 _ (hc 13 _ h rfl ⟨12,.data⟩ (by simp) rfl) rfl ⟨11,.data⟩ (by simp) rfl);exact dh rfl rfl (iK a.eval _ (aH 37) 68 58 rfl e37 rfl _ (gu cK rfl rfl _ _)) (xZ (c,d,c2,d2,(po,pn,pc),fr,up) x) fun e w1 h=>by
    obtain⟨rfl,h3⟩:=h;refine⟨_,rfl,hK _ _ rfl ⟨fun j hj hne=>(h3.block j (bE hj hb.size)).trans (hF.1 j hj hne),fun B hB=>(hF.2.1 B hB).trans (h3.mono (aL (aL hB (bJ H6.out.lt)) hb.size)),fun _=>hb.trans (h3.mono hb.size),fun h=>absurd (h.resolve_left (by decide)) nS,aL hb.size h3.size⟩ fun j u hj dj _ _ _ h=>?_⟩;rcases (by omega:j=0\/j=1\/j=2\/j=3\/j=4\/j=5\/j=6\/j=7\/j=8\/j=9\/j=10\/j=11\/j=12\/j=13\/j=14\/j=15) with rfl|rfl|rfl|rfl|rfl|rfl|rfl|rfl|rfl|rfl|rfl|rfl|rfl|rfl|rfl|rfl
    ·exact h
    ·exact h
    ·exact h
    ·exact h
    ·exact h
    ·exact h
    ·exact h
    ·exact h
    ·exact h
    ·exact h
    ·exact h
    ·exact h
    ·exact h
    ·exact absurd dj n13
    ·exact h
    ·exact absurd (hc 15 _ dj rfl ⟨13,.data⟩ (by simp) rfl) n13
  ·cases ho;have e36:a.eval (aH 36)=V X gV:=seen.at_ ⟨9,.data⟩ (by simp) rfl (aR (by decide)) _ rfl;have e38:a.eval (aH 38)=bg #[V X 3,V X c,V X d,V X c2,V X d2,J po pn pc,J Z 0 0]:=seen.at_ ⟨11,.data⟩ (by simp) rfl (aR (by decide)) _ rfl;exact bf rfl rfl (Rg.jO a.eval _ 58 #[(0,aH 36),(1,aH 38)] rfl (ps:=#[(0,V X gV),(1,bg #[V X 3,V X c,V X d,V X c2,V X d2,J po pn pc,J Z 0 0])]) (by simp only [bP,bG,cu,e36,e38]) (by simp [go_sem])) (hK _ _ rfl (still 12 (by decide)) fun _ _ _ _ _ _ _ h=>h)
  ·cases ho;have e39:a.eval (aH 39)=yS (gV,3,c,d,c2,d2,(po,pn,pc),(Z,0,0)):=seen.at_ ⟨12,.data⟩ (by simp) rfl (aR (by decide)) _ rfl;have n15:¬ D 15:=fun h=>hnd (hc 15 _ h rfl ⟨13,.data⟩ (by simp) rfl);have hl:=gT Fx x [((gV,3,c,d,c2,d2,(po,pn,pc),(Z,0,0)):nC)] 1 rfl (by simp) (jQ (gV,3,c,d,c2,d2,(po,pn,pc),(Z,0,0))).toArray (by simp [flat,EU]);have nb:=fE x (aD (jQ (gV,3,c,d,c2,d2,(po,pn,pc),(Z,0,0))).toArray 58);have sz:=hF.2.2.2.2;have ff:oF W b6 #[V X me,J o1 n1 k1,J o2 n2 k2,J o3 n3 k3,J o4 n4 k4,J o5 n5 k5] (fun j=>j=13\/D j) (x.alloc (aD (jQ (gV,3,c,d,c2,d2,(po,pn,pc),(Z,0,0))).toArray 58)):=⟨fun j hj hne=>(nb.block j (bE hj sz)).trans (hF.1 j hj hne),fun B hB=>(hF.2.1 B hB).trans (nb.mono (aL (aL hB (bJ H6.out.lt)) sz)),fun h=>(hF.2.2.1 fun q=>h (aR q)).trans (nb.mono sz),fun h=>(hF.2.2.2.1 (h.resolve_left (by decide))).on nb,aL sz nb.size⟩;have st:∀ j u,j<16->D j->j≠13->oV W.heap.size (bg #[V X me,J o1 n1 k1,J o2 n2 k2,J o3 n3 k3,J o4 n4 k4,J o5 n5 k5]) c d c2 d2 (J o2 n2 k2) ki p gV po pn pc fr up b3 b5 j u x->oV W.heap.size (bg #[V X me,J o1 n1 k1,J o2 n2 k2,J o3 n3 k3,J o4 n4 k4,J o5 n5 k5]) c d c2 d2 (J o2 n2 k2) ki p gV po pn pc fr up b3 b5 j u (x.alloc (aD (jQ (gV,3,c,d,c2,d2,(po,pn,pc),(Z,0,0))).toArray 58)):=fun j u hj dj ni h=>by
    rcases (by omega:j=0\/j=1\/j=2\/j=3\/j=4\/j=5\/j=6\/j=7\/j=8\/j=9\/j=10\/j=11\/j=12\/j=13\/j=14\/j=15) with rfl|rfl|rfl|rfl|rfl|rfl|rfl|rfl|rfl|rfl|rfl|rfl|rfl|rfl|rfl|rfl
    ·exact h
    ·exact h
    ·exact h
    ·exact h
    ·exact h
    ·exact h
    ·exact h
    ·exact h
    ·exact h
    ·exact h
    ·exact h
    ·exact h
    ·exact h
    ·exact absurd rfl ni
    ·exact h
    ·exact absurd dj n15
   have q:=hK (J (Y ⟨x.heap.size,0,Z⟩) 1 1) (x.alloc (aD (jQ (gV,3,c,d,c2,d2,(po,pn,pc),(Z,0,0))).toArray 58)) (dG hl sz) ff fun j u hj dj _ _ ni h=>st j u hj dj ni h;exact bf rfl rfl (Rg.iJ a.eval _ 44 1 #[(0,aH 39)] rfl (ps:=#[(0,yS (gV,3,c,d,c2,d2,(po,pn,pc),(Z,0,0)))]) (by simp [e39]) (by simp [go_sem])) q
  ·cases ho;have e27:a.eval (aH 27)=bg #[V X me,J o1 n1 k1,J o2 n2 k2,J o3 n3 k3,J o4 n4 k4,J o5 n5 k5]:=seen.at_ ⟨0,.data⟩ (by simp) rfl (aR (by decide)) _ rfl;have e6:a.eval (aH 6)=aC (Y ⟨b6,0,Z⟩):=seen.kp 6 _ (nd 6 (by decide)) rfl;have hb:=hF.2.2.1 hnd;have H6x:=H6.out.on hb;have s4:=dH x b6 (V X me) (J o1 n1 k1) (J o2 n2 k2) (J o3 n3 k3) (J o4 n4 k4) (J o5 n5 k5);have hx:=dK H6x (V X me) (J o1 n1 k1) (J o2 n2 k2) (J o3 n3 k3) (J o4 n4 k4) (J o5 n5 k5);have hs:=sI H6x me o1 o2 o3 o4 o5 n1 k1 n2 k2 n3 k3 n4 k4 n5 k5;have hy:∀ B,B<=b6->Below B W (gP x b6 (V X me) (J o1 n1 k1) (J o2 n2 k2) (J o3 n3 k3) (J o4 n4 k4) (J o5 n5 k5)):=fun B hB=>dD (hF.2.1 B hB) hB _ _ _ _ _ _;have so:∀ v l,jd x W.heap.size v l->jd (gP x b6 (V X me) (J o1 n1 k1) (J o2 n2 k2) (J o3 n3 k3) (J o4 n4 k4) (J o5 n5 k5)) W.heap.size v l:=fun v l h=>eY h b6 H6.out.lt _ _ _ _ _ _;have sz:x.heap.size<=(gP x b6 (V X me) (J o1 n1 k1) (J o2 n2 k2) (J o3 n3 k3) (J o4 n4 k4) (J o5 n5 k5)).heap.size:=by simp [gP]
   generalize gP x b6 (V X me) (J o1 n1 k1) (J o2 n2 k2) (J o3 n3 k3) (J o4 n4 k4) (J o5 n5 k5)=x2 at *;have n15:¬ D 15:=fun h=>hnd (hc 15 _ h rfl ⟨14,.chain⟩ (by simp) rfl);have ff:oF W b6 #[V X me,J o1 n1 k1,J o2 n2 k2,J o3 n3 k3,J o4 n4 k4,J o5 n5 k5] (fun j=>j=14\/D j) x2:=⟨fun j hj hne=>(s4 j hne).trans (hF.1 j hj hne),hy,fun h=>absurd (Or.inl rfl) h,fun _=>hx,aL hF.2.2.2.2 sz⟩;have st:∀ j u,j<16->D j->oV W.heap.size (bg #[V X me,J o1 n1 k1,J o2 n2 k2,J o3 n3 k3,J o4 n4 k4,J o5 n5 k5]) c d c2 d2 (J o2 n2 k2) ki p gV po pn pc fr up b3 b5 j u x->oV W.heap.size (bg #[V X me,J o1 n1 k1,J o2 n2 k2,J o3 n3 k3,J o4 n4 k4,J o5 n5 k5]) c d c2 d2 (J o2 n2 k2) ki p gV po pn pc fr up b3 b5 j u x2:=fun j u hj dj h=>by
    rcases (by omega:j=0\/j=1\/j=2\/j=3\/j=4\/j=5\/j=6\/j=7\/j=8\/j=9\/j=10\/j=11\/j=12\/j=13\/j=14\/j=15) with rfl|rfl|rfl|rfl|rfl|rfl|rfl|rfl|rfl|rfl|rfl|rfl|rfl|rfl|rfl|rfl
    ·exact h
    ·exact h
    ·exact h
    ·exact h
    ·exact h
    ·exact h
    ·exact h
    ·exact h
    ·exact h
    ·exact h
    ·exact h
    ·exact h
    ·exact h
    ·exact so _ _ h
    ·exact h
    ·exact absurd dj n15
   have q:=hK (aS aW) x2 trivial ff fun j u hj dj _ _ _ h=>st j u hj dj h;have q2:K a x2:=q;exact Rg.fM 33 (aH 6) (aH 27) rfl rfl rfl rfl e6 e27 hs q2
  ·cases ho;have o40:jd x W.heap.size (a.eval (aH 40)) [(gV,3,c,d,c2,d2,(po,pn,pc),(Z,0,0))]:=seen.at_ ⟨13,.data⟩ (by simp) rfl (aR (by decide)) _ rfl;exact bf rfl rfl (Rg.kU a.eval _ (aH 40) rfl x) (hK _ _ o40 (still 15 (by decide)) fun _ _ _ _ _ _ _ h=>h)
 ·intro a x df sz kp ⟨vs,hv⟩ ⟨D,hall,hF⟩;have h2:jd x W.heap.size (vs 15) [(gV,3,c,d,c2,d2,(po,pn,pc),(Z,0,0))]:=(hv 15 (by omega)).2 (by decide);have g9:a.tmps[7]?=Y (vs 15):=(hv 15 (by omega)).1 7 rfl;obtain⟨sa,sc,hs⟩:=(aX h2).len;rw [hs] at h2 g9;exact HQ.out a x (sa,_,sc) df ((kp 6 (nd 6 (by decide))).trans rfl) g9 (hF.2.2.2.1 (hall 14 (by omega))) h2 hF.1 hF.2.1
end Bk
namespace Rl
open Go.RowKit Go.Sort Pu Rw Pr Va
theorem Oq (n:ByteArray) (a b:Kd) (w:aM):bH ay 109 #[cv (r5 (n,a)),cv (r5 (n,b))] w (KR n (fu a b) w):=by
 cases a with
 | rg p q=>cases b with
  | rg r s=>exact SE n p q r s w
  | tx t=>exact Ra n p q t w
  | pr t=>exact Rb n p q t w
 | tx s=>cases b with
  | rg r q=>exact Rc n s r q w
  | tx t=>exact Sr n s t w
  | pr t=>exact Sv n s t w
 | pr s=>cases b with
  | rg r q=>exact Rf n s r q w
  | tx t=>exact Sw n s t w
  | pr t =>
   by_cases h:t.size<=s.size
   ·exact Sy n s t w h
   ·exact Sz n s t w h
theorem cnt_lt:∀ (m:List Cn) (n:ByteArray) (k:Nat) (y:Cn),k<lK m n->m[k]?=Y y->Op.bytesLess y.1.toList n.toList=aW
 | [],n,k,y,_,h=>by simp at h
 | x::r,n,0,y,hk,h=>by
  simp only [aN,bK] at h;subst h;simp only [lK] at hk
  split at hk
  ·rename_i h; exact h
  ·omega
 | x::r,n,k+1,y,hk,h=>by
  simp only [lK] at hk
  split at hk
  ·exact cnt_lt r n k y (by omega) (by simpa using h)
  ·omega
theorem SI:∀ (m:List Cn) (n:ByteArray) (y:Cn),m[lK m n]?=Y y->Op.bytesLess y.1.toList n.toList=aJ
 | [],n,y,h=>by simp at h
 | x::r,n,y,h=>by
  simp only [lK] at h
  split at h
  ·exact SI r n y (by simpa using h)
  ·rename_i hn
   simp only [aN,bK] at h;subst h;exact Bool.eq_false_iff.2 hn
theorem SK {m:List Cn} {n:ByteArray} {y:Cn} (h:m[lK m n]?=Y y):oP m n=decide (y.1=n):=by
 unfold oP;rw [h]
theorem Ot {m:List Cn} {n:ByteArray} (h:m.length<=lK m n):oP m n=aJ:=by
 unfold oP;rw [List.getElem?_eq_none h]
theorem JU (m r:List Cn) (c:Cn):jh m (c::r)=match qA m c with
  | none=>Z
  | some n=>jh n r:=rfl
theorem Hg {W U:aM} {v1 xv hi:aP} {a b:List C5} {c:C5} (h1:jP U W.heap.size v1 a) (hx:fK U xv [c]) (hh:fK W hi b) (la:a.length<=100) (lb:b.length<=100) (hb:Below W.heap.size W U) :
  ∃ v2 w2 v3 w3,(aA #[41,41] 41 #[v1,xv]).run ay U=.ok v2 w2/\(aA #[41,41] 41 #[v2,hi]).run ay w2=.ok v3 w3/\jP w3 W.heap.size v3 (a++c::b)/\Below W.heap.size W w3:=by
 obtain⟨v2,w2,r2,o2,g2⟩:=Jk W.heap.size h1 hx (by omega) (by simp) hb.size;have b2:=hb.grown g2 hb.size (fun j hj=>(h1.lt j hj).1);obtain⟨v3,w3,r3,o3,g3⟩:=Jk W.heap.size o2 (hh.on b2) (by simp; omega) (by omega) b2.size;have b3:=b2.grown g3 b2.size (fun j hj=>(o2.lt j hj).1);exact⟨v2,w2,v3,w3,r2,r3,by simpa using o3,b3⟩
theorem SQ {U w:aM} {cb:Nat} {c:C5} {row:Option Nat} (hx:fK U (J (Y ⟨cb,0,Z⟩) 1 1) [c]) (hg:U.grownBy w row) (hne:row≠Y cb):fK w (J (Y ⟨cb,0,Z⟩) 1 1) [c]:=by
 rcases hx with⟨h,_⟩|⟨a,cap,h1,h2,h3,h4⟩
 ·cases h
 ·obtain⟨rfl,rfl⟩:(⟨cb,0,Z⟩:bN)=a/\1=cap:=by simpa using h1
  exact aR ⟨_,1,rfl,h2,h3,fun j u hj=>hg.cell (h4 j u hj) (by rw [nu]; exact fun e=>hne e.symm)⟩
theorem abq {W:aM} {lo hi:aP} {a b:List C5} (c:C5) (hl:fK W lo a) (hh:fK W hi b) (la:a.length<=100) (lb:b.length<=100) :
  ∃ v1 w1 v2 w2 v3 w3,(aA #[41,41] 41 #[J (Y ⟨W.heap.size,0,Z⟩) 0 0,lo]).run ay (W.alloc (aD #[] 106))=.ok v1 w1 /\
   (aA #[41,41] 41 #[v1,J (Y ⟨w1.heap.size,0,Z⟩) 1 1]).run ay (w1.alloc (aD #[au c.1,V X c.2.1,V X c.2.2.1,V X c.2.2.2.1,au c.2.2.2.2] 106))=.ok v2 w2 /\
   (aA #[41,41] 41 #[v2,hi]).run ay w2=.ok v3 w3/\Below W.heap.size W w1/\jP w3 W.heap.size v3 (a++c::b)/\Below W.heap.size W w3:=by
 have b0:=(ah W.heap.size W).alloc (aI _) (aD #[] 106);obtain⟨v1,w1,r1,o1,g1⟩:=Jk W.heap.size (nR W) (hl.on b0) (by simp) (by omega) (by simp);have b1:=b0.grown g1 b0.size (fun j hj=>((nR W).lt j hj).1);have o1':=dB o1 ((ah _ _).alloc (aI _) (aD #[au c.1,V X c.2.1,V X c.2.2.1,V X c.2.2.2.1,au c.2.2.2.2] 106));obtain⟨v2,w2,v3,w3,r2,r3,o3,b3⟩:=Hg (a:=a) (by simpa using o1') (uN w1 c) hh la lb (b1.alloc b1.size _);exact⟨v1,w1,v2,w2,v3,w3,r1,r2,r3,b1,o3,b3⟩
theorem SV {W U:aM} {g cb:Nat} {lo hi:aP} {a b:List C5} {c:C5} (h0:jP U W.heap.size (J (Y ⟨g,0,Z⟩) 0 0) []) (hx:fK U (J (Y ⟨cb,0,Z⟩) 1 1) [c]) (hne:g≠cb) (hU:Below W.heap.size W U) (hl:fK W lo a) (hh:fK W hi b) (la:a.length<=100) (lb:b.length<=100) :
  ∃ v1 w1 v2 w2 v3 w3,(aA #[41,41] 41 #[J (Y ⟨g,0,Z⟩) 0 0,lo]).run ay U=.ok v1 w1 /\
   (aA #[41,41] 41 #[v1,J (Y ⟨cb,0,Z⟩) 1 1]).run ay w1=.ok v2 w2 /\
   (aA #[41,41] 41 #[v2,hi]).run ay w2=.ok v3 w3/\jP w3 W.heap.size v3 (a++c::b)/\Below W.heap.size W w3:=by
 obtain⟨v1,w1,r1,o1,g1⟩:=Jk W.heap.size h0 (hl.on hU) (by simp) (by omega) hU.size;have b1:=hU.grown g1 hU.size (fun j hj=>(h0.lt j hj).1);obtain⟨v2,w2,v3,w3,r2,r3,o3,b3⟩:=Hg (a:=a) (by simpa using o1) (SQ hx g1 (by simp [Value.ownBlock,hne])) hh la lb b1;exact⟨v1,w1,v2,w2,v3,w3,r1,r2,r3,o3,b3⟩
theorem Lr {U:aM} {lo hi:aP} {a b:List C5} (c:C5) (hl:fK U lo a) (hh:fK U hi b) (la:a.length<=100) (lb:b.length<=100) :
  ∃ v1 w1 v2 w2 v3 w3,(aA #[41,41] 41 #[J (Y ⟨U.heap.size,0,Z⟩) 0 0,lo]).run ay (U.drew.alloc (aD #[] 106))=.ok v1 w1 /\
   (aA #[41,41] 41 #[v1,J (Y ⟨w1.heap.size,0,Z⟩) 1 1]).run ay (w1.alloc (aD #[au c.1,V X c.2.1,V X c.2.2.1,V X c.2.2.2.1,au c.2.2.2.2] 106))=.ok v2 w2 /\
   (aA #[41,41] 41 #[v2,hi]).run ay w2=.ok v3 w3/\Below U.heap.size U w1/\jP w3 U.heap.size v3 (a++c::b)/\Below U.heap.size U w3:=by
 obtain⟨v1,w1,v2,w2,v3,w3,r1,r2,r3,b1,o3,b3⟩:=abq (W:=U.drew) c (hl.on (ah _ _).drew) (hh.on (ah _ _).drew) la lb;exact⟨v1,w1,v2,w2,v3,w3,r1,r2,r3,(ah _ _).drew.trans b1,o3,(ah _ _).drew.trans b3⟩
theorem Ls {U:aM} {lo hi:aP} {a b:List C5} (c:C5) (hl:fK U lo a) (hh:fK U hi b) (la:a.length<=100) (lb:b.length<=100) :
  ∃ v1 w1 v2 w2 v3 w3,(aA #[41,41] 41 #[J (Y ⟨U.heap.size+1,0,Z⟩) 0 0,lo]).run ay ((U.drew.alloc (aD #[au c.1,V X c.2.1,V X c.2.2.1,V X c.2.2.2.1,au c.2.2.2.2] 106)).alloc (aD #[] 106))=.ok v1 w1 /\
   (aA #[41,41] 41 #[v1,J (Y ⟨U.heap.size,0,Z⟩) 1 1]).run ay w1=.ok v2 w2 /\
   (aA #[41,41] 41 #[v2,hi]).run ay w2=.ok v3 w3/\jP w3 U.heap.size v3 (a++c::b)/\Below U.heap.size U w3:=by
 have h0:jP ((U.drew.alloc (aD #[au c.1,V X c.2.1,V X c.2.2.1,V X c.2.2.2.1,au c.2.2.2.2] 106)).alloc (aD #[] 106)) U.drew.heap.size (J (Y ⟨U.heap.size+1,0,Z⟩) 0 0) []:=by
  have h:=mH (B':=U.drew.heap.size) (by simp) (nR (U.drew.alloc (aD #[au c.1,V X c.2.1,V X c.2.2.1,V X c.2.2.2.1,au c.2.2.2.2] 106)))
  rwa [show (U.drew.alloc (aD #[au c.1,V X c.2.1,V X c.2.2.1,V X c.2.2.2.1,au c.2.2.2.2] 106)).heap.size=U.heap.size+1 by simp] at h
 obtain⟨v1,w1,v2,w2,v3,w3,r1,r2,r3,o3,b3⟩:=SV (W:=U.drew) (cb:=U.heap.size) h0 ((uN U.drew c).on ((ah _ _).alloc (aI _) _)) (by omega) (((ah _ _).alloc (aI _) _).alloc (by simp) _) (hl.on (ah _ _).drew) (hh.on (ah _ _).drew) la lb;exact⟨v1,w1,v2,w2,v3,w3,r1,r2,r3,o3,(ah _ _).drew.trans b3⟩
theorem Lu {U:aM} {lo hi:aP} {a b:List C5} (c:C5) (hl:fK U lo a) (hh:fK U hi b) (la:a.length<=100) (lb:b.length<=100) :
  ∃ v1 w1 v2 w2 v3 w3,(aA #[41,41] 41 #[J (Y ⟨U.heap.size,0,Z⟩) 0 0,lo]).run ay ((U.drew.alloc (aD #[] 106)).alloc (aD #[au c.1,V X c.2.1,V X c.2.2.1,V X c.2.2.2.1,au c.2.2.2.2] 106))=.ok v1 w1 /\
   (aA #[41,41] 41 #[v1,J (Y ⟨U.heap.size+1,0,Z⟩) 1 1]).run ay w1=.ok v2 w2 /\
   (aA #[41,41] 41 #[v2,hi]).run ay w2=.ok v3 w3/\jP w3 U.heap.size v3 (a++c::b)/\Below U.heap.size U w3:=by
 have hx:fK ((U.drew.alloc (aD #[] 106)).alloc (aD #[au c.1,V X c.2.1,V X c.2.2.1,V X c.2.2.2.1,au c.2.2.2.2] 106)) (J (Y ⟨U.heap.size+1,0,Z⟩) 1 1) [c]:=by
  have h:=uN (U.drew.alloc (aD #[] 106)) c
  rwa [show (U.drew.alloc (aD #[] 106)).heap.size=U.heap.size+1 by simp] at h
 obtain⟨v1,w1,v2,w2,v3,w3,r1,r2,r3,o3,b3⟩:=SV (W:=U.drew) (g:=U.heap.size) (dB (nR U.drew) ((ah _ _).alloc (aI _) _)) hx (by omega) (((ah _ _).alloc (aI _) _).alloc (by simp) _) (hl.on (ah _ _).drew) (hh.on (ah _ _).drew) la lb;exact⟨v1,w1,v2,w2,v3,w3,r1,r2,r3,o3,(ah _ _).drew.trans b3⟩
theorem Xf (a b:ByteArray) (h:¬ a=b):(a.toList == b.toList)=aJ:=by
 rw [beq_eq_false_iff_ne];exact fun e=>h (nP e)
def Xg (r:Option (List Cn)) (w:aM) (e:Ending) (w':aM):Prop:=Below w.heap.size w w'/\(match r with
 | some p=>∃ v,e=aT (.tuple #[v,aS aW])/\fK w' v (p.map r5)
 | none=>e=aT (.tuple #[J Z 0 0,aS aJ]))
theorem Ov (lv:aP) (l:List Cn) (w:aM) (hl:fK w lv (l.map r5)) (h10:l.length<=10):bH ay 90 #[lv] w (Xg (jh [] l) w):=by
 have HL:=O hl;have LN:=O (show (l.map r5).length=l.length from aF ..);obtain⟨ao,ac,rfl⟩:=hl.len;rw [aF] at HL ⊢;obtain⟨n,hn⟩:∃ n,n=l.length:=⟨_,rfl⟩;rw [<- hn] at HL h10 ⊢;have HN:=O hn;obtain⟨res,hres⟩:∃ r,r=jh [] l:=⟨_,rfl⟩;have HR:=O hres;have QS:=O (fun e w' (h:Xg res w e w')=>(show Xg (jh [] l) w e w' from hres ▸ h));generalize hq:Xg (jh [] l) w=q at *;clear hq hl hn hres;go_enter Tryz.func90,Tryz.ntmps90;go_wp2
 go_loopw [4,12] (fun ov i wr=>∃ (j:Nat) (m:List Cn),j<=n/\i=V X j/\jP wr w.heap.size ov (m.map r5)/\mX m/\m.length<=j/\res=jh m (l.drop j)/\Below w.heap.size w wr) (fun _ i _=>n-(intOf i).toNat)
 case atStart=>exact⟨0,[],aZ _,rfl,fZ _ _,List.Pairwise.nil,by simp,by rw [HR.out]; rfl,ah _ _⟩
 case round =>
  obtain⟨j,m,hj,rfl,hown,hrise,hmj,YK,hb⟩:=hrel;have BW:=O hb;have OW:=O hown;have RM:=O hrise;have FO:=O YK;have m10:m.length<=10:=by omega
  clear hb hown hrise YK;by_cases hjl:j<n
  ·obtain⟨⟨xn,xk⟩,hx⟩:∃ x,l[j]?=Y x:=⟨_,aj (by have:=HN.out; omega)⟩;obtain⟨p,ix,px⟩:=Wm (x:=r5 (xn,xk)) HL.out rfl (LN.out.trans HN.out.symm) (by rw [aK,hx]; rfl);obtain⟨p0,p1,p2,p3,p4⟩:=px _ BW.out;have DR:l.drop j=(xn,xk)::l.drop (j+1):=by
    have h:=List.drop_eq_getElem_cons (l:=l) (i:=j) (by have:=HN.out; omega);rw [h]
    congr 1
    exact (List.getElem?_eq_some_iff.1 hx).2
   have F2:=FO.out;rw [DR,JU] at F2;have F3:=O F2;have B4:=O (BW.out.alloc BW.out.size (aD #[au xn,V X (kN xk),V X (jk xk),V X (jl xk),au (kT xk)] 106));have O4:=O (dB OW.out ((ah wr.heap.size wr).alloc (aI _) (aD #[au xn,V X (kN xk),V X (jk xk),V X (jl xk),au (kT xk)] 106)));have X4:=O (show dJ (wr.alloc (aD #[au xn,V X (kN xk),V X (jk xk),V X (jl xk),au (kT xk)] 106)) wr.heap.size (cells5 (r5 (xn,xk))).toArray 106 from dL wr _ _);obtain⟨oo,oc,hov⟩:=(aX OW.out).len;rw [aF] at hov;subst hov;have CL:=KT m xn;simp only [r5] at p0 p1 p2 p3 p4;clear hx px F2 DR FO BW OW;go_wp2_with fail;clear ix p0 p1 p2 p3 p4;generalize wr.alloc (aD #[au xn,V X (kN xk),V X (jk xk),V X (jl xk),au (kT xk)] 106)=W1 at *;generalize wr.heap.size=cb at *
   go_loopw [7] (fun at_ wi=>∃ k:Nat,k<=lK m xn/\at_=V X k/\Below W1.heap.size W1 wi) (fun i _=>m.length-(intOf i).toNat)
   case atStart=>exact⟨0,aZ _,rfl,ah _ _⟩
   case round =>
    obtain⟨k,hk,rfl,hbi⟩:=hrel;have BI:=O hbi;have B5:=O (B4.out.trans (hbi.mono B4.out.size));have O5:=O (dB O4.out hbi);have X5:=O (X4.out.on hbi);clear hbi;obtain⟨b0,b1,b2,b3,b4⟩:=rH X5.out;simp only [r5] at b0 b1 b2 b3 b4;have OL:=O (show (m.map r5).length=m.length from aF ..);by_cases hkc:k<lK m xn
    ·obtain⟨⟨yn,yk⟩,hy⟩:∃ y,m[k]?=Y y:=⟨_,aj (by omega)⟩;obtain⟨q,iy,q0,q1,q2,q3,q4⟩:=qF (x:=r5 (yn,yk)) (aX O5.out) rfl OL.out (by rw [aK,hy]; rfl) (ah _ _);have lt:=cnt_lt m xn k _ hkc hy;have hkl:k<m.length:=by omega
     have d0:decide (k<m.length)=aW:=by simpa using hkl
     have d1:decide ((k:Int)<(m.length:Int))=aW:=by simpa using hkl
     simp only [r5] at q0 q1 q2 q3 q4 lt;clear hy;go_wp2;refine wp_region_quiet_below (by kernel_rfl) (by kernel_rfl) ?_
     repeat (go_big_quiet_step (fail))
     refine wpQuiet_nil ?_;intro _ hw';obtain⟨⟨dq,osq⟩,hw''⟩:=hw';subst hw'';have BN:=O (BI.out.trans ((ak wr dq osq).mono BI.out.size));clear iy q0 q1 q2 q3 q4 lt b0 b1 b2 b3 b4;go_wp2
     go_roundw
     case rel=>exact⟨k+1,by omega,by go_num,BN.out⟩
     case measure=>simp [intOf]; omega
    ·have hkk:k=lK m xn:=by omega
     have HK:=O hkk;by_cases hkl:k<m.length
     ·obtain⟨⟨yn,yk⟩,hy⟩:∃ y,m[k]?=Y y:=⟨_,aj hkl⟩;obtain⟨q,iy,q0,q1,q2,q3,q4⟩:=qF (x:=r5 (yn,yk)) (aX O5.out) rfl OL.out (by rw [aK,hy]; rfl) (ah _ _);have lt:=SI m xn (yn,yk) (by rw [<- hkk]; exact hy);have d0:decide (k<m.length)=aW:=by simpa using hkl
      have d1:decide ((k:Int)<(m.length:Int))=aW:=by simpa using hkl
      have TH:=O (SK (m:=m) (n:=xn) (y:=(yn,yk)) (by rw [<- hkk]; exact hy));have HY:=O hy;simp only [r5] at q0 q1 q2 q3 q4 lt;clear hy hkk hkc;by_cases he:yn=xn
      ·skip
       obtain rfl:yn=xn:=he;have TT:=O (show oP m yn=aW by rw [TH.out]; simp);obtain⟨x,hx1,hx2,hx3⟩:=NV (c:=(yn,xk)) TT.out;rw [<- HK.out,HY.out] at hx1;obtain rfl:=bn hx1;rw [<- HK.out] at hx3;have INS:=O hx3;clear hx1 hx2 hx3 TH TT;go_wp2;refine wp_region_quiet_below (by kernel_rfl) (by kernel_rfl) ?_
       repeat (go_big_quiet_step (fail))
       refine wpQuiet_nil ?_;intro _ hw';obtain⟨⟨dq,osq⟩,hw''⟩:=hw';subst hw'';clear iy q0 q1 q2 q3 q4 b0 b1 b2 b3 b4;have BN:=O (B5.out.trans ((ak wr dq osq).mono B5.out.size));have ON:=O (dB O5.out (ak wr dq osq));have XN:=O (X5.out.on (ak wr dq osq));clear B5 O5 X5 BI;generalize grow (bL wr dq) osq=w2 at *;obtain⟨b0,b1,b2,b3,b4⟩:=rH XN.out;obtain⟨q,iy,q0,q1,q2,q3,q4⟩:=qF (x:=r5 (yn,yk)) (aX ON.out) rfl OL.out (by rw [aK,HY.out]; rfl) (ah _ _);simp only [r5] at q0 q1 q2 q3 q4 b0 b1 b2 b3 b4;go_wp2;refine wp_region_quiet_below (by kernel_rfl) (by kernel_rfl) ?_
       repeat (go_big_quiet_step (fail))
       refine wpQuiet_nil ?_;intro _ hw';obtain⟨⟨dq,osq⟩,hw''⟩:=hw';subst hw'';clear iy q0 q1 q2 q3 q4 b0 b1 b2 b3 b4;have BU:=O (BN.out.trans ((ak w2 dq osq).mono BN.out.size));have OU:=O (dB ON.out (ak w2 dq osq));have XU:=O (XN.out.on (ak w2 dq osq));clear BN ON XN;generalize grow (bL w2 dq) osq=U at *;obtain⟨q,iy,_,qx⟩:=mR AO (x:=r5 (yn,yk)) (aX OU.out) rfl OL.out (by rw [aK,HY.out]; rfl);have QX:=O (fun w hw=>five (qx w hw));obtain⟨q0,q1,q2,q3,q4⟩:=QX.out U (ah _ _);obtain⟨x0,x1,x2,x3,x4⟩:=eT XU.out;have CB:=O (fun W=>Oq yn yk xk W);generalize fu yk xk=r at *;have hcb:cb<U.heap.size:=XU.out.lt;simp only [r5] at q0 q1 q2 q3 q4 x0 x1 x2 x3 x4 CB;clear qx;change ∀ w,(bF 41 (J oo m.length oc) (V X k)).run ay w=.ok (aC (Y q)) w at iy;go_wp2_with fail
       rename_i K hK
       have TAIL:∀ (pb:Nat) (wf:aM) (y:C5) (u13 u14 u15 u16 u17 u18 u19 u20 u21 u22 u23 u24 u25 u26 u27 u28 u29 u30 u31 u32 u33 u34 u35 u36 u37 u38 u39 u40 u41 u42 u43 u44 u45 u46 u47 u48 u49 u50 u51 u52 u53 u54 u55 u56 u57 u58 u59 u60 u61 u62 u63 u64 u65 u66 u67 u68 u69 u70 u71 u72 u73 u74 u75 u76:aP),dJ wf pb (cells5 y).toArray 106->Below U.heap.size U wf->(∀ k',r=Y k'->y=r5 (yn,k'))->K ⟨#[J ao n ac,undef,u2,u3,J oo m.length oc,undef,aC (Y ⟨cb,0,Z⟩),V X k,aC (Y ⟨pb,0,Z⟩),aS r.isSome,J ao n ac,V X n,V X j,u13,u14,u15,u16,u17,u18,u19,u20,u21,u22,u23,u24,u25,u26,u27,u28,u29,u30,u31,u32,u33,u34,u35,u36,u37,u38,u39,u40,u41,u42,u43,u44,u45,u46,u47,u48,u49,u50,u51,u52,u53,u54,u55,u56,u57,u58,u59,u60,u61,u62,u63,u64,u65,u66,u67,u68,u69,u70,u71,u72,u73,u74,u75,u76,undef],[]⟩ wf:=by
        clear q0 q1 q2 q3 q4 x0 x1 x2 x3 x4 CB iy QX XU hcb d0 d1 lt;intro pb wf y u13 u14 u15 u16 u17 u18 u19 u20 u21 u22 u23 u24 u25 u26 u27 u28 u29 u30 u31 u32 u33 u34 u35 u36 u37 u38 u39 u40 u41 u42 u43 u44 u45 u46 u47 u48 u49 u50 u51 u52 u53 u54 u55 u56 u57 u58 u59 u60 u61 u62 u63 u64 u65 u66 u67 u68 u69 u70 u71 u72 u73 u74 u75 u76 hyb hbw hyk;have HYB:=O hyb;have HBW:=O hbw;have HYK:=O hyk;have BF:=O (BU.out.trans (hbw.mono BU.out.size));clear hyb hbw hyk;apply hK;clear hK;rcases r with _|k'
        ·have F4:=O (show res=Z by rw [F3.out,INS.out]; rfl);go_wp2;refine QS.out _ _ ⟨BF.out,?_⟩;rw [F4.out]
         rfl
        ·have F4:=O (show res=jh (m.set k (yn,k')) (l.drop (j+1)) by rw [F3.out,INS.out]; rfl);have R4:=O (jU m (yn,xk) (m.set k (yn,k')) RM.out (by rw [INS.out]; rfl)).1;have YE:=O (HYK.out k' rfl);have ROF:=O (show fK wf (J oo m.length oc) (m.map r5) from aX (dB OU.out HBW.out));have BA:=O ((ah wf.heap.size wf).alloc (aI _) (aD #[] 106));have MK:=nR wf;obtain⟨v1,w1,r1,o0,g1⟩:=Jk wf.heap.size MK (ROF.out.on BA.out) (by simp) (by simp; omega) (by simp);have B1:=O (BA.out.grown g1 (by simp) (fun jj hj=>(MK.lt jj hj).1));have o1:jP w1 wf.heap.size v1 (m.map r5):=by simpa using o0
         rcases iT o1 with⟨_,h2⟩|⟨g,cap,cur,rfl,hBg,hg,hlc,hcm,hsz,htk⟩
         ·rw [List.map_eq_nil_iff] at h2;rw [h2] at hkl;exact absurd hkl (Nat.not_lt_zero _)
         ·have fl:=DY AO (m.map r5) k (r5 (yn,yk)) (by rw [aK,HY.out]; rfl);have cl:∀ jj u,jj<5->(cells5 (r5 (yn,yk)))[jj]?=Y u->w1.cell? ⟨g,k * 5+jj,Z⟩=Y u:=fun jj u hj hu=>(World.ownsRow.cellAt o1 (k * 5+jj) (by rw [aF]; show _<m.length * 5; omega)).trans ((fl jj hj).trans hu);have c0:=cl 0 _ (by decide) rfl;have c1:=cl 1 _ (by decide) rfl;have c2:=cl 2 _ (by decide) rfl;have c3:=cl 3 _ (by decide) rfl;have c4:=cl 4 _ (by decide) rfl;have fz:=fun jj=>(show dJ w1 g cur 106 from hg).fr jj;have BG:=O hBg;have O1:=O o1;have ix:=nI AO g k m.length cap hkl;change ∀ w,(bF 41 (J (Y ⟨g,0,Z⟩) m.length cap) (V X k)).run ay w=.ok (aC (Y ⟨g,k * 5,Z⟩)) w at ix;change w1.cell? ⟨g,k * 5,Z⟩=Y (au yn) at c0;obtain⟨y0,y1,y2,y3,y4⟩:=eT (HYB.out.on B1.out);rw [aF] at r1 O1;simp only [r5] at c1 c2 c3 c4;clear o0 o1 g1 MK hBg hg hlc hcm hsz htk fl cl BA ROF;go_wp2_with (first | (at_builtin; refine wpList_append_run rfl _ _ 41 rfl rfl rfl r1 ?_) | fail)
          go_roundw
          case rel=>exact⟨j+1,m.set k (yn,k'),by omega,by go_num,by
           rw [List.map_set,<- YE.out];exact mH BF.out.size (Oi O1.out (by rw [aF]) hkl),R4.out,by rw [List.length_set]; omega,F4.out,EM (BF.out.trans (B1.out.mono BF.out.size)) g (aL BF.out.size BG.out) _ _ _ _ _ _⟩
          case measure=>simp [intOf]; omega
       clear hK
       go_region_with (go_at_call 109; refine (CB.out _).mono ?_; rintro e w3 ⟨⟨y,rfl,hy⟩,hb3⟩; (try (have ZB:=O ((dL U.drew (cells5 (⟨#[]⟩,0,0,0,⟨#[]⟩)).toArray 106).on hb3); obtain⟨z0,z1,z2,z3,z4⟩:=eT ZB.out; have fz:=fun k=>ZB.out.fr k; simp only [World.size_drew] at z0 z1 z2 z3 z4 fz)))
       all_goals simp only [Exit.then]
       all_goals first
        | exact TAIL w3.heap.size _ y _ _ _ _ _ _ _ _ _ _ _ _ _ _ _ _ _ _ _ _ _ _ _ _ _ _ _ _ _ _ _ _ _ _ _ _ _ _ _ _ _ _ _ _ _ _ _ _ _ _ _ _ _ _ _ _ _ _ _ _ _ _ _ _ (dL w3 _ _) (((ah U.heap.size U).drew.trans hb3).alloc hb3.size _) hy
        | exact TAIL U.heap.size _ y _ _ _ _ _ _ _ _ _ _ _ _ _ _ _ _ _ _ _ _ _ _ _ _ _ _ _ _ _ _ _ _ _ _ _ _ _ _ _ _ _ _ _ _ _ _ _ _ _ _ _ _ _ _ _ _ _ _ _ _ _ _ _ _ (wR ((dL U.drew (cells5 (⟨#[]⟩,0,0,0,⟨#[]⟩)).toArray 106).on hb3) y) (ig (((ah U.heap.size U).drew.alloc (by simp) _).trans (hb3.mono (by simp))) U.heap.size (aI _) _ _ _ _ _) hy
      ·have eq:=Xf yn xn he;have NT:=O (show oP m xn=aJ by rw [TH.out]; simpa using he);clear he TH;go_wp2;refine wp_region_quiet_below (by kernel_rfl) (by kernel_rfl) ?_
       repeat (go_big_quiet_step (fail))
       refine wpQuiet_nil ?_;intro _ hw';obtain⟨⟨dq,osq⟩,hw''⟩:=hw';subst hw'';clear iy q0 q1 q2 q3 q4 b0 b1 b2 b3 b4;have BN:=O (B5.out.trans ((ak wr dq osq).mono B5.out.size));have ON:=O (dB O5.out (ak wr dq osq));have XN:=O (X5.out.on (ak wr dq osq));clear B5 O5 X5 BI;generalize grow (bL wr dq) osq=w2 at *;obtain⟨b0,b1,b2,b3,b4⟩:=rH XN.out;obtain⟨q,iy,q0,q1,q2,q3,q4⟩:=qF (x:=r5 (yn,yk)) (aX ON.out) rfl OL.out (by rw [aK,HY.out]; rfl) (ah _ _);simp only [r5] at q0 q1 q2 q3 q4 b0 b1 b2 b3 b4;go_wp2;refine wp_region_quiet_below (by kernel_rfl) (by kernel_rfl) ?_
       repeat (go_big_quiet_step (fail))
       refine wpQuiet_nil ?_;intro _ hw';obtain⟨⟨dq,osq⟩,hw''⟩:=hw';subst hw'';have BU:=O (BN.out.trans ((ak w2 dq osq).mono BN.out.size));have OU:=O (dB ON.out (ak w2 dq osq));have XU:=O (XN.out.on (ak w2 dq osq));clear BN ON XN;generalize grow (bL w2 dq) osq=U at *;have INS:=O (KU (c:=(xn,xk)) NT.out);rw [<- HK.out] at INS;have F4:=O (show res=jh (m.take k++(xn,xk)::m.drop k) (l.drop (j+1)) by rw [F3.out,INS.out]);have R4:=O (jU m (xn,xk) _ RM.out INS.out).1;have L4:=O (show (m.take k++(xn,xk)::m.drop k).length<=j+1 by have:=HK.out; simp; omega);have KM:=O (show k<=(m.map r5).length by have:=HK.out; rw [aF]; omega);obtain⟨lo,AU,uE⟩:=loC (aX OU.out) k KM.out;obtain⟨hi,AV,vX⟩:=hiC (aX OU.out) k KM.out;have la:((m.map r5).take k).length<=100:=by simp; omega
       have lb:((m.map r5).drop k).length<=100:=by simp; omega
       have MP:=O (show (m.take k++(xn,xk)::m.drop k).map r5=(m.map r5).take k++(xn,kN xk,jk xk,jl xk,kT xk)::(m.map r5).drop k by rw [bI,bG,bY,bZ]; rfl);obtain⟨va1,wa1,va2,wa2,va3,wa3,ra1,ra2,ra3,ba1,oa3,ba3⟩:=Lr (xn,kN xk,jk xk,jl xk,kT xk) uE vX la lb;obtain⟨vb1,wb1,vb2,wb2,vb3,wb3,rb1,rb2,rb3,ob3,bb3⟩:=Ls (xn,kN xk,jk xk,jl xk,kT xk) uE vX la lb;obtain⟨vc1,wc1,vc2,wc2,vc3,wc3,rc1,rc2,rc3,oc3,bc3⟩:=Lu (xn,kN xk,jk xk,jl xk,kT xk) uE vX la lb;have ENDS:=O (fun (v3:aP) (w3:aM) (o3:jP w3 U.heap.size v3 ((m.map r5).take k++(xn,kN xk,jk xk,jl xk,kT xk)::(m.map r5).drop k)) (b3:Below U.heap.size U w3)=>(show jP w3 w.heap.size v3 ((m.take k++(xn,xk)::m.drop k).map r5)/\Below w.heap.size w w3 from ⟨by rw [MP.out]; exact mH BU.out.size o3,BU.out.trans (b3.mono BU.out.size)⟩));have EA:=O (ENDS.out va3 wa3 oa3 ba3);have EB:=O (ENDS.out vb3 wb3 ob3 bb3);have EC_:=O (ENDS.out vc3 wc3 oc3 bc3);obtain⟨x0,x1,x2,x3,x4⟩:=eT XU.out;obtain⟨y0,y1,y2,y3,y4⟩:=eT (XU.out.on ba1);simp only [r5] at x0 x1 x2 x3 x4 y0 y1 y2 y3 y4 ra2 rb1 rc1;have hcb:cb<U.heap.size:=XU.out.lt;clear oa3 ba3 ob3 bb3 oc3 bc3 ENDS uE vX la lb ba1 MP XU OU BU;go_wp2_with fail
       go_region_law (first
        | (refine eH rfl (aH 64) (aH 67) 41 rfl (by simp [aG]) (by simp [aG]) ra1 ?_)
        | (refine eH rfl (aH 64) (aH 67) 41 rfl (by simp [aG]) (by simp [aG]) rb1 ?_)
        | (refine eH rfl (aH 64) (aH 67) 41 rfl (by simp [aG]) (by simp [aG]) rc1 ?_)
        | (refine eH rfl (aH 68) (aH 70) 41 rfl (by simp [aG]) (by simp [aG]) ra2 ?_)
        | (refine eH rfl (aH 68) (aH 70) 41 rfl (by simp [aG]) (by simp [aG]) rb2 ?_)
        | (refine eH rfl (aH 68) (aH 70) 41 rfl (by simp [aG]) (by simp [aG]) rc2 ?_)
        | (refine eH rfl (aH 71) (aH 74) 41 rfl (by simp [aG]) (by simp [aG]) ra3 ?_)
        | (refine eH rfl (aH 71) (aH 74) 41 rfl (by simp [aG]) (by simp [aG]) rb3 ?_)
        | (refine eH rfl (aH 71) (aH 74) 41 rfl (by simp [aG]) (by simp [aG]) rc3 ?_))
       all_goals simp only [Exit.inBlock,Exit.then]
       all_goals
        apply_assumption
        clear ra1 ra2 ra3 rb1 rb2 rb3 rc1 rc2 rc3 x0 x1 x2 x3 x4 y0 y1 y2 y3 y4 AU AV;go_wp2
        go_roundw
        case rel=>first
         | exact⟨j+1,_,by omega,by go_num,EA.out.1,R4.out,L4.out,F4.out,EA.out.2⟩
         | exact⟨j+1,_,by omega,by go_num,EB.out.1,R4.out,L4.out,F4.out,EB.out.2⟩
         | exact⟨j+1,_,by omega,by go_num,EC_.out.1,R4.out,L4.out,F4.out,EC_.out.2⟩
        case measure=>simp [intOf]; omega
     ·have d0:decide (k<m.length)=aJ:=by simpa using hkl
      have d1:decide ((k:Int)<(m.length:Int))=aJ:=by simpa using hkl
      have NT:=O (Ot (m:=m) (n:=xn) (by rw [<- hkk]; omega));clear hkk hkc hkl;go_wp2;refine wp_region_quiet_below (by kernel_rfl) (by kernel_rfl) ?_
      repeat (go_big_quiet_step (fail))
      refine wpQuiet_nil ?_;intro _ hw';obtain⟨⟨dq,osq⟩,hw''⟩:=hw';subst hw'';clear b0 b1 b2 b3 b4;have BN:=O (B5.out.trans ((ak wr dq osq).mono B5.out.size));have ON:=O (dB O5.out (ak wr dq osq));have XN:=O (X5.out.on (ak wr dq osq));clear B5 O5 X5 BI;generalize grow (bL wr dq) osq=w2 at *;go_wp2;refine wp_region_quiet_below (by kernel_rfl) (by kernel_rfl) ?_
      repeat (go_big_quiet_step (fail))
      refine wpQuiet_nil ?_;intro _ hw';obtain⟨⟨dq,osq⟩,hw''⟩:=hw';subst hw'';have BU:=O (BN.out.trans ((ak w2 dq osq).mono BN.out.size));have OU:=O (dB ON.out (ak w2 dq osq));have XU:=O (XN.out.on (ak w2 dq osq));clear BN ON XN;generalize grow (bL w2 dq) osq=U at *;have INS:=O (KU (c:=(xn,xk)) NT.out);rw [<- HK.out] at INS;have F4:=O (show res=jh (m.take k++(xn,xk)::m.drop k) (l.drop (j+1)) by rw [F3.out,INS.out]);have R4:=O (jU m (xn,xk) _ RM.out INS.out).1;have L4:=O (show (m.take k++(xn,xk)::m.drop k).length<=j+1 by have:=HK.out; simp; omega);have KM:=O (show k<=(m.map r5).length by have:=HK.out; rw [aF]; omega);obtain⟨lo,AU,uE⟩:=loC (aX OU.out) k KM.out;obtain⟨hi,AV,vX⟩:=hiC (aX OU.out) k KM.out;have la:((m.map r5).take k).length<=100:=by simp; omega
      have lb:((m.map r5).drop k).length<=100:=by simp; omega
      have MP:=O (show (m.take k++(xn,xk)::m.drop k).map r5=(m.map r5).take k++(xn,kN xk,jk xk,jl xk,kT xk)::(m.map r5).drop k by rw [bI,bG,bY,bZ]; rfl);obtain⟨va1,wa1,va2,wa2,va3,wa3,ra1,ra2,ra3,ba1,oa3,ba3⟩:=Lr (xn,kN xk,jk xk,jl xk,kT xk) uE vX la lb;obtain⟨vb1,wb1,vb2,wb2,vb3,wb3,rb1,rb2,rb3,ob3,bb3⟩:=Ls (xn,kN xk,jk xk,jl xk,kT xk) uE vX la lb;obtain⟨vc1,wc1,vc2,wc2,vc3,wc3,rc1,rc2,rc3,oc3,bc3⟩:=Lu (xn,kN xk,jk xk,jl xk,kT xk) uE vX la lb;have ENDS:=O (fun (v3:aP) (w3:aM) (o3:jP w3 U.heap.size v3 ((m.map r5).take k++(xn,kN xk,jk xk,jl xk,kT xk)::(m.map r5).drop k)) (b3:Below U.heap.size U w3)=>(show jP w3 w.heap.size v3 ((m.take k++(xn,xk)::m.drop k).map r5)/\Below w.heap.size w w3 from ⟨by rw [MP.out]; exact mH BU.out.size o3,BU.out.trans (b3.mono BU.out.size)⟩));have EA:=O (ENDS.out va3 wa3 oa3 ba3);have EB:=O (ENDS.out vb3 wb3 ob3 bb3);have EC_:=O (ENDS.out vc3 wc3 oc3 bc3);obtain⟨x0,x1,x2,x3,x4⟩:=eT XU.out;obtain⟨y0,y1,y2,y3,y4⟩:=eT (XU.out.on ba1);simp only [r5] at x0 x1 x2 x3 x4 y0 y1 y2 y3 y4 ra2 rb1 rc1;have hcb:cb<U.heap.size:=XU.out.lt;clear oa3 ba3 ob3 bb3 oc3 bc3 ENDS uE vX la lb ba1 MP XU OU BU;go_wp2_with fail
      go_region_law (first
       | (refine eH rfl (aH 64) (aH 67) 41 rfl (by simp [aG]) (by simp [aG]) ra1 ?_)
       | (refine eH rfl (aH 64) (aH 67) 41 rfl (by simp [aG]) (by simp [aG]) rb1 ?_)
       | (refine eH rfl (aH 64) (aH 67) 41 rfl (by simp [aG]) (by simp [aG]) rc1 ?_)
       | (refine eH rfl (aH 68) (aH 70) 41 rfl (by simp [aG]) (by simp [aG]) ra2 ?_)
       | (refine eH rfl (aH 68) (aH 70) 41 rfl (by simp [aG]) (by simp [aG]) rb2 ?_)
       | (refine eH rfl (aH 68) (aH 70) 41 rfl (by simp [aG]) (by simp [aG]) rc2 ?_)
       | (refine eH rfl (aH 71) (aH 74) 41 rfl (by simp [aG]) (by simp [aG]) ra3 ?_)
       | (refine eH rfl (aH 71) (aH 74) 41 rfl (by simp [aG]) (by simp [aG]) rb3 ?_)
       | (refine eH rfl (aH 71) (aH 74) 41 rfl (by simp [aG]) (by simp [aG]) rc3 ?_))
      all_goals simp only [Exit.inBlock,Exit.then]
      all_goals
       apply_assumption
       clear ra1 ra2 ra3 rb1 rb2 rb3 rc1 rc2 rc3 x0 x1 x2 x3 x4 y0 y1 y2 y3 y4 AU AV;go_wp2
       go_roundw
       case rel=>first
        | exact⟨j+1,_,by omega,by go_num,EA.out.1,R4.out,L4.out,F4.out,EA.out.2⟩
        | exact⟨j+1,_,by omega,by go_num,EB.out.1,R4.out,L4.out,F4.out,EB.out.2⟩
        | exact⟨j+1,_,by omega,by go_num,EC_.out.1,R4.out,L4.out,F4.out,EC_.out.2⟩
       case measure=>simp [intOf]; omega
  ·obtain rfl:j=n:=by omega
   have R:=O (show res=Y m by rw [FO.out,List.drop_of_length_le (by have:=HN.out; omega)]; rfl);go_wp2;refine QS.out _ _ ⟨BW.out,?_⟩;rw [R.out];exact⟨_,rfl,aX OW.out⟩
theorem Ox {W:aM} {qZ bv:aP} {a b:List Cn} (ha:fK W qZ (a.map r5)) (hb:fK W bv (b.map r5)) (la:a.length<=5) (lb:b.length<=5) :
  ∃ v1 w1 v2 w2,(aA #[41,41] 41 #[J (Y ⟨W.heap.size,0,Z⟩) 0 0,qZ]).run ay (W.alloc (aD #[] 106))=.ok v1 w1 /\
   (aA #[41,41] 41 #[v1,bv]).run ay w1=.ok v2 w2/\fK w2 v2 ((a++b).map r5)/\Below W.heap.size W w2:=by
 have b0:=(ah W.heap.size W).alloc (aI _) (aD #[] 106);obtain⟨v1,w1,r1,o1,g1⟩:=Jk W.heap.size (nR W) (ha.on b0) (by simp) (by rw [aF]; omega) (by simp);have b1:=b0.grown g1 b0.size (fun j hj=>((nR W).lt j hj).1);obtain⟨v2,w2,r2,o2,g2⟩:=Jk W.heap.size o1 (hb.on b1) (by simp; omega) (by rw [aF]; omega) b1.size;have b2:=b1.grown g2 b1.size (fun j hj=>(o1.lt j hj).1);exact⟨v1,w1,v2,w2,r1,r2,by rw [bI]; exact aX (by simpa using o2),b2⟩
theorem Hl (qZ bv:aP) (a b:List Cn) (w:aM) (ha:fK w qZ (a.map r5)) (hb:fK w bv (b.map r5)) (na:NF a) (nb:NF b):bH ay 56 #[qZ,bv] w fun e w'=>e=aT (aS (yF a b))/\Below w.heap.size w w':=by
 obtain⟨v1,w1,v2,w2,r1,r2,ro,b2⟩:=Ox ha hb na.five nb.five;have B2:=O b2;have MK:=O (Ov v2 (a++b) w2 ro (by have:=na.five; have:=nb.five; simp; omega));have RB:=O (QU (b:=b) na.rise);have MR:=O (QV (b:=b) na.rise na.five);rw [RB.out] at MK;generalize jh a b=res at *;generalize yF a b=r at *;clear ha hb na nb ro b2 RB;go_enter Tryz.func56,Tryz.ntmps56;go_wp2_with (first | (at_builtin; refine wpList_append_run rfl _ _ 41 rfl rfl rfl r1 ?_) | (at_builtin; refine wpList_append_run rfl _ _ 41 rfl rfl rfl r2 ?_) | fail);refine MK.out.mono ?_;rintro e3 w3 ⟨hb3,h3⟩;have B3:=O (B2.out.trans (hb3.mono B2.out.size));clear hb3 MK r1 r2;rcases res with _|p
 ·have R:=O (show r=aJ from MR.out);obtain rfl:=h3;clear MR;go_wp2;go_ret;exact⟨eD R.out.symm,B3.out⟩
 ·obtain⟨v,rfl,hp⟩:=h3;obtain⟨po,pc,rfl⟩:=hp.len;have R:=O (show r=decide (p.length<=5) from MR.out);rw [aF];clear MR hp;by_cases h5:p.length<=5
  ·have d1:decide ((p.length:Int)<=5)=aW:=by simp; omega
   have R2:=O (show r=aW by rw [R.out]; simpa using h5);clear R h5;go_wp2;go_ret;exact⟨eD R2.out.symm,B3.out⟩
  ·have d1:decide ((p.length:Int)<=5)=aJ:=by simp; omega
   have R2:=O (show r=aJ by rw [R.out]; simpa using h5);clear R h5;go_wp2;go_ret;exact⟨eD R2.out.symm,B3.out⟩
end Rl
namespace Bk
open Go.RowKit Go.Sort Rw YtkcfgbddlpomgaaGreat.Nm Pr Rl
def jX (p q:List C5):Bool:=yF (p.map WA) (q.map WA)
theorem EP (qZ bv:aP) (p q:List C5) (w:aM) (ha:fK w qZ p) (hb:fK w bv q) (hp:dW p) (hq:dW q) :
  bH ay 56 #[qZ,bv] w fun e w'=>e=aT (aS (jX p q))/\Below w.heap.size w w':=by
 obtain⟨a,na,rfl⟩:=hp;obtain⟨b,nb,rfl⟩:=hq;unfold jX;rw [qE,qE];exact Hl qZ bv a b w ha hb na nb
abbrev mgv (k:Int) (t x:Id) (pv qv:Sl):aP:=bg #[V X k,V X t.1,V X t.2,V X x.1,V X x.2,dR pv,dR qv]
theorem ER (b:Br) (nv av sv ev ov:Sl) (f mk:Int) (t x:Id) (pv qv:Sl) (w:aM) (h:gZ w b nv av sv ev ov) (l2:b.dO.length<=900) (l3:b.ent.length<=900) (hok:∀ e∈b.ent,dW e.p) (hkn:∀ e∈b.ent,e.tree∈b.dO.map Ad.id) :
  bH ay 64 #[ny b.me nv av sv ev ov,V X f,mgv mk t x pv qv] w fun e w'=>(∃ ev' lo:Sl,e=aT (.tuple #[ny b.me nv av sv ev' ov,dR lo])/\gZ w' (jM b t x f).1 nv av sv ev' ov/\kS w' lo (jM b t x f).2)/\Below w.heap.size w w':=by
 obtain⟨no,nn,nc⟩:=nv;obtain⟨ao,an,ac⟩:=av;obtain⟨so,sn,sc⟩:=sv;obtain⟨eo,en,ec⟩:=ev;obtain⟨oo,dU,oc⟩:=ov;obtain⟨po,pn,pc⟩:=pv;obtain⟨qo,qn,qc⟩:=qv;obtain⟨c,d⟩:=t;obtain⟨c2,d2⟩:=x;have DP:=O (fun W hb'=>C8 b (no,nn,nc) (ao,an,ac) (so,sn,sc) (eo,en,ec) (oo,dU,oc) (c,d) (c2,d2) f W (h.on (show Below w.heap.size w W from hb')) l2 l3 hok hkn);have vO:=O h.near;obtain⟨h0,h1,h2,h3⟩:=gN w #[V X b.me,J no nn nc,J ao an ac,J so sn sc,J eo en ec,J oo dU oc] #[V X mk,V X c,V X d,V X c2,V X d2,J po pn pc,J qo qn qc] #[V X 0,J Z 0 0,J Z 0 0,J Z 0 0,J Z 0 0,J Z 0 0] 33 43 33;obtain⟨me,hme⟩:∃ me,me=b.me:=⟨_,rfl⟩;simp only [<- hme] at h0 h1 h2 h3 DP ⊢;have gH:=O (h0);have nE:=O (h1);have kR:=O (h2);have lC:=O (h3);clear h0 h1 h2 h3 h l2 hme hok hkn;show bH ay 64 #[bg #[V X me,J no nn nc,J ao an ac,J so sn sc,J eo en ec,J oo dU oc],V X f,bg #[V X mk,V X c,V X d,V X c2,V X d2,J po pn pc,J qo qn qc]] w _;go_enter Tryz.func64,Tryz.ntmps64;go_upto_region 1 with fail;generalize (((w.alloc (aD #[V X me,J no nn nc,J ao an ac,J so sn sc,J eo en ec,J oo dU oc] 33)).alloc (aD #[V X mk,V X c,V X d,V X c2,V X d2,J po pn pc,J qo qn qc] 43)).alloc (aD #[V X 0,J Z 0 0,J Z 0 0,J Z 0 0,J Z 0 0,J Z 0 0] 33))=W at *;have SW:=O (DP.out W gH.out);clear DP;obtain⟨x0,x1,x2,x3,x4,x5⟩:=nE.out.fA;obtain⟨y0,y1,y2,y3,y4,y5,y6⟩:=kR.out.mU;go_wp2_with fail;refine SW.out.mono ?_;rintro e1 w1 ⟨⟨⟨ea,gW,gX⟩,⟨la,ln,lc⟩,rfl,hbr,hou⟩,hb⟩;clear SW;clear x0 x1 x2 x3 x4 x5 y0 y1 y2 y3 y4 y5 y6;have oQ:=O (gH.out.trans (hb.mono gH.out.size));have jT:=O (nE.out.on hb);have JV:=O (kR.out.on hb);have nG:=O (lC.out.on hb);clear gH nE kR lC;obtain⟨r0,r1,r2,r3,r4,r5⟩:=nG.out.fA;obtain⟨Cx,Cy,Cz,CF,CG,CJ⟩:=nG.out.kg;have zz:=nG.out.lt;have GG:=O (dK nG.out (V X me) (J no nn nc) (J ao an ac) (J so sn sc) (J ea gW gX) (J oo dU oc));have BL:=O (dD (b:=w.heap.size+1+1) oQ.out (by omega) (V X me) (J no nn nc) (J ao an ac) (J so sn sc) (J ea gW gX) (J oo dU oc));have HK:=O (fun j (_:j<w1.heap.size) (hj:j≠w.heap.size+1+1)=>dH w1 (w.heap.size+1+1) (V X me) (J no nn nc) (J ao an ac) (J so sn sc) (J ea gW gX) (J oo dU oc) j hj);have HC:=O (eZ (s1:=(Z,0,0)) (s2:=(Z,0,0)) (s3:=(Z,0,0)) (s4:=(Z,0,0)) (s5:=(Z,0,0)) hbr nG.out HK.out (by rw [iU,(jv b (c,d) (c2,d2) f).2.1]; exact vO.out.on BL.out));have HO:=O (iQ (s1:=(Z,0,0)) (s2:=(Z,0,0)) (s3:=(Z,0,0)) (s4:=(Z,0,0)) (s5:=(Z,0,0)) hou nG.out HK.out);go_wp2_with fail;obtain⟨v0,v1,v2,v3,v4,v5⟩:=GG.out.fA;refine bD (v:=.tuple #[bg #[V X me,J no nn nc,J ao an ac,J so sn sc,J ea gW gX,J oo dU oc],J la ln lc]) (by simp [results,Tryz.results64,go_sem,v0,v1,v2,v3,v4,v5]) rfl ?_;exact⟨⟨(ea,gW,gX),(la,ln,lc),rfl,HC.out,HO.out⟩,BL.out⟩
def mW (b:Br) (f:Int) (t x:Id) (p:List C5):Br×List Ou:=if (gQ b ⟨t,x,p,f,aJ⟩).2=aJ then ((gQ b ⟨t,x,p,f,aJ⟩).1,[]) else
 match b.dO[(fG (b.dO.map Ad.id) t).toNat]? with
 | none=>((gQ b ⟨t,x,p,f,aJ⟩).1,[])
 | some a=>((gQ b ⟨t,x,p,f,aJ⟩).1,[A9 a.par ⟨t,x,p,f,aJ⟩])
theorem pV (b:Br) (f:Int) (t x:Id) (p:List C5):(mW b f t x p).1=(gQ b ⟨t,x,p,f,aJ⟩).1:=by
 unfold mW
 split
 ·rfl
 ·split <;> rfl
theorem Oy {b:Br} {e:En} (h:(gQ b e).2=aW):∃ (k:Nat) (a:Ad),fG (b.dO.map Ad.id) e.tree=k/\b.dO[k]?=Y a:=by
 unfold gQ at h
 split at h
 ·cases h
 ·rename_i a ha
  split at h
  ·cases h
  ·rename_i h1
   have h2:=pq (b.dO.map Ad.id) e.tree;exact⟨(fG (b.dO.map Ad.id) e.tree).toNat,a,by omega,ha⟩
theorem JW (b:Br) (nv av sv ev ov:Sl) (f mk:Int) (t x:Id) (pv qv:Sl) (p:List C5) (w:aM) (h:gZ w b nv av sv ev ov) (hp:fK w (dR pv) p) (l2:b.dO.length<=900) (l3:b.ent.length<=900) (hok:∀ e∈b.ent,dW e.p) (hop:dW p) :
  bH ay 63 #[ny b.me nv av sv ev ov,V X f,mgv mk t x pv qv] w fun e w'=>(∃ ev' lo:Sl,e=aT (.tuple #[ny b.me nv av sv ev' ov,dR lo])/\gZ w' (mW b f t x p).1 nv av sv ev' ov/\kS w' lo (mW b f t x p).2)/\Below w.heap.size w w':=by
 obtain⟨no,nn,nc⟩:=nv;obtain⟨ao,an,ac⟩:=av;obtain⟨so,sn,sc⟩:=sv;obtain⟨eo,en,ec⟩:=ev;obtain⟨oo,dU,oc⟩:=ov;obtain⟨po,pn,pc⟩:=pv;obtain⟨qo,qn,qc⟩:=qv;obtain⟨c,d⟩:=t;obtain⟨c2,d2⟩:=x;have AD:=O (fun W hb'=>Rn b (no,nn,nc) (ao,an,ac) (so,sn,sc) (eo,en,ec) (oo,dU,oc) (c,d,c2,d2,(po,pn,pc),f,aJ) ⟨(c,d),(c2,d2),p,f,aJ⟩ W (h.on (show Below w.heap.size w W from hb')) ⟨rfl,rfl,rfl,rfl,hp.on hb'⟩ l2 l3 hok hop);have vO:=O h.near;have HP:=O hp;obtain⟨h0,h1,h2,h3⟩:=gN w #[V X b.me,J no nn nc,J ao an ac,J so sn sc,J eo en ec,J oo dU oc] #[V X mk,V X c,V X d,V X c2,V X d2,J po pn pc,J qo qn qc] #[V X 0,J Z 0 0,J Z 0 0,J Z 0 0,J Z 0 0,J Z 0 0] 33 43 33;obtain⟨me,hme⟩:∃ me,me=b.me:=⟨_,rfl⟩;simp only [<- hme] at h0 h1 h2 h3 AD ⊢;have gH:=O (h0);have nE:=O (h1);have kR:=O (h2);have lC:=O (h3);clear h0 h1 h2 h3 h l2 hme hok hp;show bH ay 63 #[bg #[V X me,J no nn nc,J ao an ac,J so sn sc,J eo en ec,J oo dU oc],V X f,bg #[V X mk,V X c,V X d,V X c2,V X d2,J po pn pc,J qo qn qc]] w _;go_enter Tryz.func63,Tryz.ntmps63;go_upto_region 1 with fail;generalize (((w.alloc (aD #[V X me,J no nn nc,J ao an ac,J so sn sc,J eo en ec,J oo dU oc] 33)).alloc (aD #[V X mk,V X c,V X d,V X c2,V X d2,J po pn pc,J qo qn qc] 43)).alloc (aD #[V X 0,J Z 0 0,J Z 0 0,J Z 0 0,J Z 0 0,J Z 0 0] 33))=W at *;obtain⟨y0,y1,y2,y3,y4,y5,y6⟩:=kR.out.mU;go_upto_region 2 with fail;clear y0 y1 y2 y3 y4 y5 y6;have W4:=O (show w.heap.size+3<=W.heap.size from by have:=lC.out.lt; omega);have NN:=fE W (aD #[V X c,V X d,V X c2,V X d2,J po pn pc,V X f,aS aJ] 68);have oQ:=O (gH.out.trans (NN.mono gH.out.size));have jT:=O (nE.out.on NN);have JV:=O (kR.out.on NN);have nG:=O (lC.out.on NN);clear gH nE kR lC;clear NN;have N7:=O (dL W #[V X c,V X d,V X c2,V X d2,J po pn pc,V X f,aS aJ] 68);generalize W.alloc (aD #[V X c,V X d,V X c2,V X d2,J po pn pc,V X f,aS aJ] 68)=Wa at *;have SW:=O (AD.out Wa oQ.out);clear AD;obtain⟨x0,x1,x2,x3,x4,x5⟩:=jT.out.fA;obtain⟨z0,z1,z2,z3,z4,z5,z6⟩:=N7.out.mU;go_wp2_with fail;refine SW.out.mono ?_;rintro e1 w1 ⟨⟨⟨ea,gW,gX⟩,rfl,hbr⟩,hb⟩;clear SW;clear x0 x1 x2 x3 x4 x5 z0 z1 z2 z3 z4 z5 z6;have lD:=O (oQ.out.trans (hb.mono oQ.out.size));have mM:=O (jT.out.on hb);have A8:=O (JV.out.on hb);have qV:=O (nG.out.on hb);have qW:=O (N7.out.on hb);clear oQ jT JV nG N7;obtain⟨fb,JI⟩:∃ r,(gQ b ⟨(c,d),(c2,d2),p,f,aJ⟩).2=r:=⟨_,rfl⟩;have LB:=O JI;rw [JI];have w4:=W4.out;obtain⟨k0,k1,k2,k3,k4,k5⟩:=mM.out.fA;obtain⟨pG,pI,pJ,pK,pO,pQ⟩:=mM.out.kg;have zz:=mM.out.lt;have FB:=O (dK mM.out (V X me) (J no nn nc) (J ao an ac) (J so sn sc) (J ea gW gX) (J oo dU oc));have B2:=O (dD (b:=w.heap.size) lD.out (aI _) (V X me) (J no nn nc) (J ao an ac) (J so sn sc) (J ea gW gX) (J oo dU oc));have Bc:=O (fun j (_:j<w1.heap.size) (hj:j≠w.heap.size)=>dH w1 (w.heap.size) (V X me) (J no nn nc) (J ao an ac) (J so sn sc) (J ea gW gX) (J oo dU oc) j hj);have FX5:=O (show dJ _ _ _ _ from (dH w1 (w.heap.size) (V X me) (J no nn nc) (J ao an ac) (J so sn sc) (J ea gW gX) (J oo dU oc) (w.heap.size+1) (by omega)).trans A8.out);have zA:=O (show dJ _ _ _ _ from (dH w1 (w.heap.size) (V X me) (J no nn nc) (J ao an ac) (J so sn sc) (J ea gW gX) (J oo dU oc) (w.heap.size+1+1) (by omega)).trans qV.out);have FX8:=O (show dJ _ _ _ _ from (dH w1 (w.heap.size) (V X me) (J no nn nc) (J ao an ac) (J so sn sc) (J ea gW gX) (J oo dU oc) (W.heap.size) (by omega)).trans qW.out);have HB:=O (eZ (s1:=(no,nn,nc)) (s2:=(ao,an,ac)) (s3:=(so,sn,sc)) (s4:=(eo,en,ec)) (s5:=(oo,dU,oc)) hbr mM.out Bc.out (by rw [(jr b ⟨(c,d),(c2,d2),p,f,aJ⟩).2.1]; exact vO.out.on B2.out));clear JI lD mM A8 qV qW;go_upto_region 3 with fail;clear zz Bc k0 k1 k2 k3 k4 k5 pG pI pJ pK pO pQ;unfold gP at FB B2 HB FX5 zA FX8;generalize ((((((w1.setCell ⟨w.heap.size,0,Z⟩ (V X me)).setCell ⟨w.heap.size,1,Z⟩ (J no nn nc)).setCell ⟨w.heap.size,2,Z⟩ (J ao an ac)).setCell ⟨w.heap.size,3,Z⟩ (J so sn sc)).setCell ⟨w.heap.size,4,Z⟩ (J ea gW gX)).setCell ⟨w.heap.size,5,Z⟩ (J oo dU oc))=w2 at *;have lM:=O (B2.out);have om:=O (FB.out);have xB:=O (FX5.out);have lQ:=O (zA.out);have oD:=O (FX8.out);clear B2 FB FX5 zA FX8;cases fb
 ·have x0:=om.out.cell 0;have x1:=om.out.cell 1;have x2:=om.out.cell 2;have x3:=om.out.cell 3;have x4:=om.out.cell 4;have x5:=om.out.cell 5;simp only [aQ,aN,aU] at x0 x1 x2 x3 x4 x5;obtain⟨r0,r1,r2,r3,r4,r5⟩:=lQ.out.fA;obtain⟨Cx,Cy,Cz,CF,CG,CJ⟩:=lQ.out.kg;have zz:=lQ.out.lt;have GG:=O (dK lQ.out (V X me) (J no nn nc) (J ao an ac) (J so sn sc) (J ea gW gX) (J oo dU oc));have BL:=O (dD (b:=w.heap.size+1+1) lM.out (by omega) (V X me) (J no nn nc) (J ao an ac) (J so sn sc) (J ea gW gX) (J oo dU oc));have HK:=O (fun j (_:j<w2.heap.size) (hj:j≠w.heap.size+1+1)=>dH w2 (w.heap.size+1+1) (V X me) (J no nn nc) (J ao an ac) (J so sn sc) (J ea gW gX) (J oo dU oc) j hj);have HC:=O (eZ (s1:=(Z,0,0)) (s2:=(Z,0,0)) (s3:=(Z,0,0)) (s4:=(Z,0,0)) (s5:=(Z,0,0)) HB.out lQ.out HK.out (by rw [(jr b ⟨(c,d),(c2,d2),p,f,aJ⟩).2.1]; exact vO.out.on BL.out));go_wp2_with fail;obtain⟨v0,v1,v2,v3,v4,v5⟩:=GG.out.fA;refine bD (v:=.tuple #[bg #[V X me,J no nn nc,J ao an ac,J so sn sc,J ea gW gX,J oo dU oc],J Z 0 0]) (by simp [results,bV,go_sem,v0,v1,v2,v3,v4,v5]) rfl ?_;have hd:mW b f (c,d) (c2,d2) p=((gQ b ⟨(c,d),(c2,d2),p,f,aJ⟩).1,[]):=by unfold mW; rw [if_pos LB.out]
  rw [hd];exact⟨⟨(ea,gW,gX),(Z,0,0),rfl,HC.out,pF _⟩,BL.out⟩
 ·obtain⟨k,a,hk1,hak⟩:=Oy LB.out;have hk1:fG (b.dO.map Ad.id) (c,d)=k:=hk1;have DB:=O (show mW b f (c,d) (c2,d2) p=((gQ b ⟨(c,d),(c2,d2),p,f,aJ⟩).1,[A9 a.par ⟨(c,d),(c2,d2),p,f,aJ⟩]) from by
   unfold mW;rw [if_neg (by rw [LB.out]; simp),hk1,Int.toNat_natCast,hak])
  obtain⟨ad,xP,uW⟩:=HB.out.dO;rw [(jr b ⟨(c,d),(c2,d2),p,f,aJ⟩).2.2.1] at uW;obtain⟨z,hz1,hz2⟩:=uW.at k a hak;have FK:=yI uW;rw [<- FK] at hk1;obtain⟨q1,q2,hq⟩:=xP.len;obtain⟨pa,ix,pl,px⟩:=mR okD xP hq rfl hz1;have ix2:∀ w,(bF 28 (J ao an ac) (V X (k:Int))).run ay w=.ok (aC (Y pa)) w:=fun w=>by have h1:(J ao an ac)=J q1 ad.length q2:=hq; rw [h1]; exact ix w
  have pb:=px w2 (ah _ _);have p3:w2.cell? ⟨pa.block,pa.off+3,Z⟩=Y (V X z.2.2.2):=by simpa [Addr.add] using pb 3 _ rfl
  rw [hz2.2.1] at p3;have pn6:pa.block≠w.heap.size+1+1:=jq (E:=ED) (show dJ w2 (w.heap.size+1+1) (iw 0 (Z,0,0) (Z,0,0) (Z,0,0) (Z,0,0) (Z,0,0)) 33 from lQ.out) (fun c=>⟨_,_,rfl,rfl⟩) (j5 0 (Z,0,0) (Z,0,0) (Z,0,0) (Z,0,0) (Z,0,0)) pa z pb;clear hq ix pb px hz1 hz2 hak FK uW;go_upto_region 5 with fail;refine abp _ w2 w.heap.size (w.heap.size+1) (w.heap.size+1+1) W.heap.size me mk c d c2 d2 f a.par aJ no ao so ea oo nn nc an ac sn sc gW gX dU oc po qo pn pc qn qc ad k pa _ _ _ _ _ _ _ _ _ _ _ _ _ _ _ _ _ _ _ _ _ _ _ _ _ _ _ _ _ _ _ _ _ _ _ _ _ _ _ _ _ _ _ om.out xB.out lQ.out oD.out (by omega) (by omega) (by omega) xP hk1 ix2 p3 pl pn6 ?_;intro a9 x9 sl Gs h69 h79 hbx ho hblk hbl;have BL:=O (show Below w.heap.size w x9 from lM.out.trans (hbl w.heap.size (by omega)));have HC:=O (eZ (s1:=(Z,0,0)) (s2:=(Z,0,0)) (s3:=(Z,0,0)) (s4:=(Z,0,0)) (s5:=(Z,0,0)) HB.out lQ.out hblk (by rw [(jr b ⟨(c,d),(c2,d2),p,f,aJ⟩).2.1]; exact vO.out.on BL.out));have HU:=O (aX ho);obtain⟨v0,v1,v2,v3,v4,v5⟩:=hbx.fA;clear hbx ho hblk hbl HB xP ix2 p3 pl pn6 hk1;simp only [Exit.then]
  apply_assumption
  go_wp2_with fail;refine bD (v:=.tuple #[bg #[V X me,J no nn nc,J ao an ac,J so sn sc,J ea gW gX,J oo dU oc],dR sl]) (by simp [results,bV,go_sem,h69,h79,v0,v1,v2,v3,v4,v5]) Gs ?_;rw [DB.out];exact⟨⟨ea,gW,gX,sl.1,sl.2.1,sl.2.2,rfl,HC.out,_,HU.out,.cons ⟨rfl,rfl,rfl,rfl,HP.out.on BL.out,rfl⟩ .nil⟩,BL.out⟩
def gI (s:Br×List Ou) (mt:Bool) (e:En) (gV:Int):Br×List Ou:=if mt=aJ then s else ((gQ s.1 e).1,if (gQ s.1 e).2=aW then s.2++[A9 gV e] else s.2)
theorem Ho {b:Br} {e:En} (R:En->Prop) (h:∀ q∈b.ent,R q) (he:∀ u,R { e with up:=u }):∀ q∈(gQ b e).1.ent,R q:=by
 unfold gQ
 split
 ·exact h
 ·split
  ·exact h
  ·split
   ·exact h
   ·split
    ·exact h
    ·intro q hq;rcases bS.1 hq with h1|h1
     ·rcases bS.1 h1 with h2|h2
      ·exact h q (List.mem_of_mem_take h2)
      ·rw [List.mem_singleton.1 h2];exact he _
     ·exact h q (List.mem_of_mem_drop h1)
theorem Hq (b:Br) (e:En):(gQ b e).1.ent.length<=b.ent.length+1:=by
 unfold gQ
 split
 ·exact aV _
 ·split
  ·exact aV _
  ·split
   ·exact aV _
   ·split
    ·exact aV _
    ·show (fP _ _ _).length<=_;unfold fP;rw [aY,aY,bQ,bR];simp;omega
structure Lv (b0 b:Br) (k:Nat):Prop where
 me:b.me=b0.me
 near:b.near=b0.near
 dO:b.dO=b0.dO
 seen:b.seen=b0.seen
 own:b.own=b0.own
 len:b.ent.length<=b0.ent.length+k
theorem Lv.add {b0 b:Br} {k:Nat} (h:Lv b0 b k) (e:En):Lv b0 (gQ b e).1 (k+1):=by
 obtain⟨h1,h2,h3,h4,h5⟩:=jr b e;exact⟨h1.trans h.me,h2.trans h.near,h3.trans h.dO,h4.trans h.seen,h5.trans h.own,by have:=Hq b e; have:=h.len; omega⟩
theorem Lv.succ {b0 b:Br} {k:Nat} (h:Lv b0 b k):Lv b0 b (k+1):=⟨h.me,h.near,h.dO,h.seen,h.own,by have:=h.len; omega⟩
theorem Lv.step {b0:Br} {s:Br×List Ou} {k:Nat} (h:Lv b0 s.1 k) (mt:Bool) (e:En) (t:Int):Lv b0 (gI s mt e t).1 (k+1):=by
 unfold gI
 split
 ·exact h.succ
 ·exact h.add e
theorem SY {s:Br×List Ou} (mt:Bool) (e:En) (t:Int) (R:En->Prop) (h:∀ q∈s.1.ent,R q) (he:∀ u,R { e with up:=u }):∀ q∈(gI s mt e t).1.ent,R q:=by
 unfold gI
 split
 ·exact h
 ·exact Ho R h he
theorem S9 {s:Br×List Ou} (mt:Bool) (e:En) (t:Int):(gI s mt e t).2.length<=s.2.length+1:=by
 unfold gI
 split
 ·exact aV _
 ·show (if _ then _ else _:List Ou).length<=_
  split
  ·simp
  ·exact aV _
def eU {α:Type} (l:List α) (f:Br×List Ou->α->Br×List Ou) (s0:Br×List Ou) (k:Nat):Br×List Ou:=(l.take k).foldl f s0
theorem nV {α:Type} {l:List α} {k:Nat} {a:α} (f:Br×List Ou->α->Br×List Ou) (s0:Br×List Ou) (h:l[k]?=Y a):eU l f s0 (k+1)=f (eU l f s0 k) a:=by
 unfold eU;rw [List.take_add_one,h,List.foldl_append]
 rfl
theorem lG {α:Type} {l:List α} {b0:Br} {o0:List Ou} (mt:α->Bool) (e:α->En) (t:α->Int) (R:En->Prop) (h0:∀ q∈b0.ent,R q) (hR:∀ a∈l,∀ u,R { e a with up:=u }):∀ k,k<=l.length->Lv b0 (eU l (fun s a=>gI s (mt a) (e a) (t a)) (b0,o0) k).1 k/\(∀ q∈(eU l (fun s a=>gI s (mt a) (e a) (t a)) (b0,o0) k).1.ent,R q)/\(eU l (fun s a=>gI s (mt a) (e a) (t a)) (b0,o0) k).2.length<=o0.length+k
 | 0,_=>⟨⟨rfl,rfl,rfl,rfl,rfl,aI _⟩,h0,aI _⟩
 | k+1,hk=>by
  obtain⟨a,ha⟩:∃ a,l[k]?=Y a:=⟨_,aj hk⟩;obtain⟨h1,h2,h3⟩:=lG mt e t R h0 hR k (by omega) (o0:=o0);rw [nV _ _ ha];exact⟨h1.step _ _ _,SY _ _ _ R h2 (hR a (aO ha)),aL (S9 _ _ _) (by omega)⟩
def gB (near:List Int) (but kind:Int) (t x:Id) (p:List C5):List Ou:=(near.filter fun n=>n != but).map fun n=>⟨n,kind,t,x,p⟩
abbrev zB (x:Id) (o:Ow):En:=⟨x,o.id,o.p,-1,aJ⟩
abbrev mO (f:Int) (x:Id) (p:List C5) (s:Br×List Ou) (o:Ow):Br×List Ou:=gI s (jX o.p p) (zB x o) f
def kF (b:Br) (f:Int) (x:Id) (p:List C5):Br×List Ou:=if (fF b ⟨x,p,f⟩).2=aJ then ((fF b ⟨x,p,f⟩).1,[]) else
 eU (fF b ⟨x,p,f⟩).1.own (mO f x p) ((fF b ⟨x,p,f⟩).1,gB b.near f 1 x (0,0) p) (fF b ⟨x,p,f⟩).1.own.length
abbrev ng (x:Id) (p:List C5) (a:Ad):En:=⟨a.id,x,p,-1,aJ⟩
abbrev jy (x:Id) (p:List C5) (s:Br×List Ou) (a:Ad):Br×List Ou:=gI s (jX p a.p) (ng x p a) a.par
def ownIn (b:Br) (x:Id) (p:List C5):Br:={ b with own:=fP b.own (fH (b.own.map Ow.id) x) ⟨x,p⟩ }
def kr (b:Br) (x:Id) (p:List C5):Br×List Ou:=if (b.own[fH (b.own.map Ow.id) x]?).map Ow.id=Y x then (b,[]) else
 eU b.dO (jy x p) (ownIn b x p,[]) b.dO.length
theorem jJ (b:Br) (a:Ad):(fF b a).1.me=b.me/\(fF b a).1.near=b.near/\(fF b a).1.ent=b.ent/\(fF b a).1.own=b.own:=by
 unfold fF
 split <;> exact⟨rfl,rfl,rfl,rfl⟩
theorem Dn (b:Br) (a:Ad):(fF b a).1.dO.length<=b.dO.length+1/\(fF b a).1.seen.length<=b.seen.length+1:=by
 unfold fF
 split
 ·exact⟨aV _,aV _⟩
 ·constructor <;> (show (fP _ _ _).length<=_; unfold fP; rw [aY,aY,bQ,bR]; simp; omega)
theorem Dp {W:aM} {near:List Int} {f k:Int} {t x:Id} {pv:Sl} {p:List C5} (hp:fK W (dR pv) p):eB (rJ W) (lg near f fun n=>(n,k,t.1,t.2,x.1,x.2,pv,(Z,0,0))) (gB near f k t x p):=by
 unfold lg gB
 induction near.filter (fun n=>n != f) with
 | nil=>exact .nil
 | cons a l ih=>exact .cons ⟨rfl,rfl,rfl,rfl,hp,rfl⟩ ih
def yj (B:Nat) (b11 _ _:Nat) (_ _ gV c d c2 d2 fr:Int) (up:Bool) (_ po:Option bN) (_ _ pn pc:Nat) (rv:aP) (_:List nC) (i:Nat) (v:aP) (x:aM):Prop :=
 match i with
 | 0=>v=rv
 | 1=>v=aC (Y ⟨b11,3,Z⟩)
 | 2=>v=V X gV
 | 3=>v=bg #[V X c,V X d,V X c2,V X d2,J po pn pc,V X fr,aS up]
 | 4=>v=bg #[V X 3,V X c,V X d,V X c2,V X d2,J po pn pc,J Z 0 0]
 | 5=>v=yS (gV,3,c,d,c2,d2,(po,pn,pc),(Z,0,0))
 | 6=>jd x B v [(gV,3,c,d,c2,d2,(po,pn,pc),(Z,0,0))]
 | _=>True
noncomputable def Lx:Code:=((Tryz.f27.body.bind (eG 16)).getD .skip)
theorem JX (B:Nat) (b11 b12 F0:Nat) (z1 z2 gV c d c2 d2 fr:Int) (up:Bool) (z3 po:Option bN) (z4 z5 pn pc:Nat) (rv:aP) (lo:List nC) (i:Nat) (v:aP) (x x':aM) (h:yj B b11 b12 F0 z1 z2 gV c d c2 d2 fr up z3 po z4 z5 pn pc rv lo i v x) (hb:Below x.heap.size x x'):yj B b11 b12 F0 z1 z2 gV c d c2 d2 fr up z3 po z4 z5 pn pc rv lo i v x':=by
 by_cases hi:i<7
 ·rcases (by omega:i=0\/i=1\/i=2\/i=3\/i=4\/i=5\/i=6) with rfl|rfl|rfl|rfl|rfl|rfl|rfl
  ·exact h
  ·exact h
  ·exact h
  ·exact h
  ·exact h
  ·exact h
  ·exact dB h hb
 ·unfold yj
  split <;> first | omega | trivial
theorem Ta (Q:Exit->Act->aM->Prop) (W:aM) (b11 b12 F0:Nat) (z1 z2 gV c d c2 d2 fr:Int) (up:Bool) (z3 po:Option bN) (z4 z5 pn pc:Nat) (rv:aP) (lo:List nC) (u0 u1 u2 u3 u4 u5 u6 u7 u8 u10 u13 u14 u15 u16 u17 u18 u19 u20 u21 u22 u23 u24 u25 u26 u27 u28 u29 u30 u31 u32 u33 u34 u35 u36 u37 u38 u39 u40 u41 u42 u43 u44 u45 u46 u47 u48 u49 u50 u51 u52 u53 u54 u55 u56 u57 u58 u59 u60 u61 u62 u63 u64 u65 u66 u67 u68 u69 u70 u71 u72 u73 u74 u75 u76 u77 u78 u79 u80 u81 u82 u83 u84 u85 u86 u87 u88 u89 u90 u91 u92 u93 u94 u95 u96 u97 u98:aP)
  (h11:dJ W b11 #[V X z1,V X z2,J z3 z4 z5,V X gV] 53) (h12:dJ W b12 #[V X c,V X d,V X c2,V X d2,J po pn pc,V X fr,aS up] 68) (fw:F0<=W.heap.size) (ho:jd W F0 rv lo) (hl:lo.length<=1000000)
  (hQ:∀ (x0 x:aM) (w9:aP) (v88 v89 v90 v91 v92 v93 v94 v95:aP),Below W.heap.size W x0->x0.grownBy x rv.ownBlock->jd x F0 w9 (lo++[(gV,3,c,d,c2,d2,(po,pn,pc),(Z,0,0))])->Q .normal ⟨(u0::u1::u2::u3::u4::u5::u6::u7::u8::w9::u10::aC (Y ⟨b11,0,Z⟩)::aC (Y ⟨b12,0,Z⟩)::u13::u14::u15::u16::u17::u18::u19::u20::u21::u22::u23::u24::u25::u26::u27::u28::u29::u30::u31::u32::u33::u34::u35::u36::u37::u38::u39::u40::u41::u42::u43::u44::u45::u46::u47::u48::u49::u50::u51::u52::u53::u54::u55::u56::u57::u58::u59::u60::u61::u62::u63::u64::u65::u66::u67::u68::u69::u70::u71::u72::u73::u74::u75::u76::u77::u78::u79::u80::u81::u82::u83::u84::u85::u86::u87::v88::v89::v90::v91::v92::v93::v94::v95::u96::u97::u98::[]).toArray,[]⟩ x) :
  Code.wp ay Lx Q ⟨(u0::u1::u2::u3::u4::u5::u6::u7::u8::rv::u10::aC (Y ⟨b11,0,Z⟩)::aC (Y ⟨b12,0,Z⟩)::u13::u14::u15::u16::u17::u18::u19::u20::u21::u22::u23::u24::u25::u26::u27::u28::u29::u30::u31::u32::u33::u34::u35::u36::u37::u38::u39::u40::u41::u42::u43::u44::u45::u46::u47::u48::u49::u50::u51::u52::u53::u54::u55::u56::u57::u58::u59::u60::u61::u62::u63::u64::u65::u66::u67::u68::u69::u70::u71::u72::u73::u74::u75::u76::u77::u78::u79::u80::u81::u82::u83::u84::u85::u86::u87::u88::u89::u90::u91::u92::u93::u94::u95::u96::u97::u98::[]).toArray,[]⟩ W:=by
 have HQ:=O hQ;have H11:=O h11;have H12:=O h12;have FW:=O fw;have HO:=O ho;have HL:=O hl;clear hQ h11 h12 fw ho hl;have iN:=JX W.heap.size b11 b12 F0 z1 z2 gV c d c2 d2 fr up z3 po z4 z5 pn pc rv lo;unfold Lx
 conv=>arg 2; whnf
 have nd:∀ j,(∀ i,i<7->[88,89,90,91,92,93,94].getD i 0≠j)->∀ i,i<7->(fun i=>[88,89,90,91,92,93,94].getD i 0) i≠j:=fun j h=>h;refine Rg.fJ 9 7 (fun i=>[88,89,90,91,92,93,94].getD i 0) (fun _=>7) (yj W.heap.size b11 b12 F0 z1 z2 gV c d c2 d2 fr up z3 po z4 z5 pn pc rv lo) (by kernel_rfl) (by kernel_rfl) rfl (by decide) (fun i j hi hj h=>(by decide:∀ i,i<7->∀ j,j<7->[88,89,90,91,92,93,94].getD i 0=[88,89,90,91,92,93,94].getD j 0->i=j) i hi j hj h) (fun i hi=>(by decide:∀ i,i<7->[88,89,90,91,92,93,94].getD i 0<99) i hi) ?_ (fun _=>Rg.jc 14 (by kernel_rfl)) ?_ ?_
 ·intro i o hi ho a x D hnd hc hD hb seen K hK;clear HQ;rcases (by omega:i=0\/i=1\/i=2\/i=3\/i=4\/i=5\/i=6) with rfl|rfl|rfl|rfl|rfl|rfl|rfl
  ·cases ho;have e9:a.eval (aH 9)=rv:=seen.kp 9 _ (nd 9 (by decide)) rfl;exact bf rfl rfl (Rg.fU a.eval _ (aH 9) rfl x) (hK _ _ e9 (ah _ _) fun _ _ _ _ _ _ _ h=>h)
  ·cases ho;have e11:a.eval (aH 11)=aC (Y ⟨b11,0,Z⟩):=seen.kp 11 _ (nd 11 (by decide)) rfl;exact bf rfl rfl (cZ a.eval _ 53 (aH 11) 2 rfl (by rw [e11]; simp [go_sem])) (hK _ _ rfl (ah _ _) fun _ _ _ _ _ _ _ h=>h)
  ·cases ho;have e89:a.eval (aH 89)=aC (Y ⟨b11,3,Z⟩):=seen.at_ ⟨1,.data⟩ (by simp) rfl (aR (by decide));have y3:=(H11.out.on hb).cell 3;simp only [aQ,aN,aU] at y3;exact bf rfl rfl (bU a.eval _ 3 (aH 89) rfl (by rw [e89]; simp [go_sem,y3])) (hK _ _ rfl (ah _ _) fun _ _ _ _ _ _ _ h=>h)
  ·cases ho;have e12:a.eval (aH 12)=aC (Y ⟨b12,0,Z⟩):=seen.kp 12 _ (nd 12 (by decide)) rfl;obtain⟨y0,y1,y2,y3,y4,y5,y6⟩:=(H12.out.on hb).mU;exact bf rfl rfl (bU a.eval _ 68 (aH 12) rfl (by rw [e12]; simp [go_sem,y0,y1,y2,y3,y4,y5,y6])) (hK _ _ rfl (ah _ _) fun _ _ _ _ _ _ _ h=>h)
  ·cases ho;have e91:a.eval (aH 91)=bg #[V X c,V X d,V X c2,V X d2,J po pn pc,V X fr,aS up]:=seen.at_ ⟨3,.data⟩ (by simp) rfl (aR (by decide));exact dh rfl rfl (iK a.eval _ (aH 91) 68 58 rfl e91 rfl _ (gu cK rfl rfl _ _)) (xZ (c,d,c2,d2,(po,pn,pc),fr,up) x) fun e w1 h=>by
    obtain⟨rfl,h3⟩:=h;exact⟨_,rfl,hK _ _ rfl (h3.mono hb.size) fun j u _ _ _ _ _ h=>iN j u _ _ h h3⟩
  ·cases ho;have e90:a.eval (aH 90)=V X gV:=seen.at_ ⟨2,.data⟩ (by simp) rfl (aR (by decide));have e92:a.eval (aH 92)=bg #[V X 3,V X c,V X d,V X c2,V X d2,J po pn pc,J Z 0 0]:=seen.at_ ⟨4,.data⟩ (by simp) rfl (aR (by decide));exact bf rfl rfl (Rg.jO a.eval _ 58 #[(0,aH 90),(1,aH 92)] rfl (ps:=#[(0,V X gV),(1,bg #[V X 3,V X c,V X d,V X c2,V X d2,J po pn pc,J Z 0 0])]) (by simp only [bP,bG,cu,e90,e92]) (by simp [go_sem])) (hK _ _ rfl (ah _ _) fun _ _ _ _ _ _ _ h=>h)
  ·cases ho;have e93:a.eval (aH 93)=yS (gV,3,c,d,c2,d2,(po,pn,pc),(Z,0,0)):=seen.at_ ⟨5,.data⟩ (by simp) rfl (aR (by decide));have hl:=gT Fx x [((gV,3,c,d,c2,d2,(po,pn,pc),(Z,0,0)):nC)] 1 rfl (by simp) (jQ (gV,3,c,d,c2,d2,(po,pn,pc),(Z,0,0))).toArray (by simp [flat,EU]);have nb:=fE x (aD (jQ (gV,3,c,d,c2,d2,(po,pn,pc),(Z,0,0))).toArray 58);exact bf rfl rfl (Rg.iJ a.eval _ 44 1 #[(0,aH 93)] rfl (ps:=#[(0,yS (gV,3,c,d,c2,d2,(po,pn,pc),(Z,0,0)))]) (by simp [e93]) (by simp [go_sem])) (hK (J (Y ⟨x.heap.size,0,Z⟩) 1 1) (x.alloc (aD (jQ (gV,3,c,d,c2,d2,(po,pn,pc),(Z,0,0))).toArray 58)) (dG hl hb.size) (nb.mono hb.size) fun j u _ _ _ _ _ h=>iN j u _ _ h nb)
 ·intro kk o h1 h2 ho;rcases (by omega:kk=8) with rfl
  ·cases ho;exact⟨⟨7,.data⟩,by simp,rfl,rfl⟩
 ·intro a w' df sz kp ⟨vs,hv⟩ hb;have sz':a.tmps.size=99:=sz;have g88:a.tmps[88]?=Y (rv):=by
   have h:vs 0=rv:=(hv 0 (by omega)).2 (by decide);rw [<- h];exact (hv 0 (by omega)).1
  have g94:a.tmps[94]?=Y (vs 6):=(hv 6 (by omega)).1;have G94:=(hv 6 (by omega)).2 (by decide);have o94:jd w' W.heap.size (vs 6) [(gV,3,c,d,c2,d2,(po,pn,pc),(Z,0,0))]:=G94;generalize vs 6=v6 at *;obtain⟨v',x',r,o',gr⟩:=uX Fx F0 (dB HO.out hb) (aX o94) HL.out (by simp) (aL FW.out hb.size) 44;show Rg.fC _ _ _ 2 7 a w';simp only [Rg.fC];refine bf rfl rfl (Rg.fO a.eval _ (aH 88) (aH 94) 44 rfl (dn g88) (dn g94) r) ?_;have e95:(a.put (Y 95) v').eval (aH 95)=v':=dn (by simp [cB,sz']);refine bf rfl rfl (Rg.kU _ _ (aH 95) rfl x') ?_;show Q .normal ((a.put (Y 95) v').put (Y 9) ((a.put (Y 95) v').eval (aH 95))) x';rw [e95];show Q .normal ((a.put (Y 95) v').put (Y 9) v') x';have ka:∀ j,j≠95->j≠9->((a.put (Y 95) v').put (Y 9) v').tmps[j]?=a.tmps[j]?:=fun j h1 h2=>by rw [cO _ _ _ _ (by omega),cO _ _ _ _ (by omega)]
  have kt:((a.put (Y 95) v').put (Y 9) v').tmps[9]?=Y (v'):=by simp [cB,sz']
  have qU:∀ j,(j<88\/96<=j)->((a.put (Y 95) v').put (Y 9) v').tmps[j]?=(u0::u1::u2::u3::u4::u5::u6::u7::u8::v'::u10::aC (Y ⟨b11,0,Z⟩)::aC (Y ⟨b12,0,Z⟩)::u13::u14::u15::u16::u17::u18::u19::u20::u21::u22::u23::u24::u25::u26::u27::u28::u29::u30::u31::u32::u33::u34::u35::u36::u37::u38::u39::u40::u41::u42::u43::u44::u45::u46::u47::u48::u49::u50::u51::u52::u53::u54::u55::u56::u57::u58::u59::u60::u61::u62::u63::u64::u65::u66::u67::u68::u69::u70::u71::u72::u73::u74::u75::u76::u77::u78::u79::u80::u81::u82::u83::u84::u85::u86::u87::u88::u89::u90::u91::u92::u93::u94::u95::u96::u97::u98::[])[j]?:=fun j hj=>by
   by_cases hj2:j=9
   ·subst hj2;exact kt
   ·have hs:(u0::u1::u2::u3::u4::u5::u6::u7::u8::v'::u10::aC (Y ⟨b11,0,Z⟩)::aC (Y ⟨b12,0,Z⟩)::u13::u14::u15::u16::u17::u18::u19::u20::u21::u22::u23::u24::u25::u26::u27::u28::u29::u30::u31::u32::u33::u34::u35::u36::u37::u38::u39::u40::u41::u42::u43::u44::u45::u46::u47::u48::u49::u50::u51::u52::u53::u54::u55::u56::u57::u58::u59::u60::u61::u62::u63::u64::u65::u66::u67::u68::u69::u70::u71::u72::u73::u74::u75::u76::u77::u78::u79::u80::u81::u82::u83::u84::u85::u86::u87::u88::u89::u90::u91::u92::u93::u94::u95::u96::u97::u98::[]:List aP)=(u0::u1::u2::u3::u4::u5::u6::u7::u8::rv::u10::aC (Y ⟨b11,0,Z⟩)::aC (Y ⟨b12,0,Z⟩)::u13::u14::u15::u16::u17::u18::u19::u20::u21::u22::u23::u24::u25::u26::u27::u28::u29::u30::u31::u32::u33::u34::u35::u36::u37::u38::u39::u40::u41::u42::u43::u44::u45::u46::u47::u48::u49::u50::u51::u52::u53::u54::u55::u56::u57::u58::u59::u60::u61::u62::u63::u64::u65::u66::u67::u68::u69::u70::u71::u72::u73::u74::u75::u76::u77::u78::u79::u80::u81::u82::u83::u84::u85::u86::u87::u88::u89::u90::u91::u92::u93::u94::u95::u96::u97::u98::[]).set 9 (v'):=rfl;rw [hs,List.getElem?_set_ne (Ne.symm hj2)];exact (ka j (by omega) hj2).trans ((kp j (nd j fun i hi h=>by have:=(by decide:∀ i,i<7->88<=[88,89,90,91,92,93,94].getD i 0/\[88,89,90,91,92,93,94].getD i 0<96) i hi; omega)).trans aQ)
  obtain⟨mid,hmid,hfr⟩:=Rg.gq (a:=(a.put (Y 95) v').put (Y 9) v') 88 8 (by simp [cB,df]) (by simp [cB,sz']) (by simp) qU;rw [hfr]
  match mid,hmid with
  | [v88,v89,v90,v91,v92,v93,v94,v95],_ =>
   exact HQ.out w' x' _ _ _ _ _ _ _ _ _ hb gr o'
end Bk
namespace Rl
open Go.RowKit Pu Rw Pr In
theorem abw (has vals:List Int):NL (At.rE has vals 7) :=
 ⟨At.zx has vals 7 (aI _),At.GV has vals 7,fun x hx=>by
  obtain⟨i,h1,h2⟩:=At.sO has vals 7 x hx;have h3:=(At.wQ has vals 7 x hx).2;exact⟨by rw [h2,At.Ef]; decide,by omega⟩⟩
end Rl
namespace At
open Go.RowKit Go.Sort Va In
theorem Dq:∀ (l:List A4) (n:ByteArray) (k:Nat) (x:A4),l[k]?=Y x->x.1=n->(∀ (j:Nat) (y:A4),j<k->l[j]?=Y y->y.1≠n)->wP l n=Y x.2
 | [],n,k,x,h,_,_=>by simp at h
 | y::r,n,0,x,h,e,_=>by simp at h; subst h; simp [wP,e]
 | y::r,n,k+1,x,h,e,hn=>by
  simp only [wP];rw [if_neg (hn 0 y (by omega) rfl),Dq r n k x (by simpa using h) e (fun j z hj hz=>hn (j+1) z (by omega) (by simpa using hz))]
theorem Oz (l:List A4) (n:ByteArray) (h:∀ (j:Nat) (y:A4),j<l.length->l[j]?=Y y->y.1≠n):wP l n=Z :=
 get_none l n fun x hx=>by
  obtain⟨j,hj,e⟩:=List.getElem_of_mem hx;exact h j x hj (by rw [aj hj,e])
theorem adW:adF:=by
 intro lv l n w hl h5 hn;have HL:=O hl;obtain⟨lo,lc,rfl⟩:=hl.len;have B0:=O (show Below w.heap.size w (w.alloc (aD #[aS aJ,V X 0,au ⟨#[]⟩] 93)) from (ah _ _).alloc (aI _) _);have HT0:=O (dL w aJ 0 ⟨#[]⟩);clear hl;go_enter Tryz.func44,Tryz.ntmps44;go_wp2;generalize w.alloc (aD #[aS aJ,V X 0,au ⟨#[]⟩] 93)=w1 at B0 HT0 ⊢
 go_loopw [10] (fun i wr=>∃ k:Nat,k<=l.length/\i=V X k/\Below w.heap.size w wr/\oq wr w.heap.size aJ 0 ⟨#[]⟩/\∀ (j:Nat) (y:A4),j<k->l[j]?=Y y->y.1≠n) (fun i _=>l.length-(intOf i).toNat)
 case atStart=>exact⟨0,aZ _,rfl,B0.out,HT0.out,fun j y h=>by omega⟩
 case round =>
  obtain⟨k,hk,rfl,hb,ht,hall⟩:=hrel;have HB:=O hb;have HT:=O ht;have AL:=O hall;clear hb hall ht;by_cases hlt:k<l.length
  ·obtain⟨⟨xn,xt,xi,xs⟩,hx⟩:∃ x,l[k]?=Y x:=⟨_,aj hlt⟩;obtain⟨p,ix,px⟩:=wC HL.out rfl rfl hx;obtain⟨p0,p1,p2,p3⟩:=px _ HB.out;have HX:=O hx;have B4:=O (HB.out.alloc HB.out.size (aD #[au xn,aS xt,V X xi,au xs] 97));have T4:=O (HT.out.more (aD #[au xn,aS xt,V X xi,au xs] 97));clear hx px;simp only at p0 p1 p2 p3;by_cases he:xn=n
   ·have hn:(xn.toList == n.toList)=aW:=by rw [he]; exact beq_self_eq_true _
    have R:=O (Dq l n k _ HX.out he AL.out);have HE:=O he;clear he;have c0:=HT.out.cell 0;have c1:=HT.out.cell 1;have c2:=HT.out.cell 2;simp at c0 c1 c2;have f0:=HT.out.fr 0;have f1:=HT.out.fr 1;have f2:=HT.out.fr 2;have abn:=HT.out.lt;go_wp2;have T5:=(HT.out.adG xt xi xs).more (aD #[au xn,aS xt,V X xi,au xs] 97);have B5:=(uw HB.out (aI _) xt xi xs).alloc (uw HB.out (aI _) xt xi xs).size (aD #[au xn,aS xt,V X xi,au xs] 97);unfold Sm at T5 B5;generalize World.alloc _ (aD #[au xn,aS xt,V X xi,au xs] 97)=w6 at T5 B5 ⊢;have d0:=T5.cell 0;have d1:=T5.cell 1;have d2:=T5.cell 2;simp at d0 d1 d2;refine bD (v:=JN (Y (xt,xi,xs))) (by simp [results,bW,go_sem,d0,d1,d2,JN]) rfl ⟨by rw [R.out],B5⟩
   ·have hn:(xn.toList == n.toList)=aJ:=by rw [beq_eq_false_iff_ne]; exact fun h=>he (nP h)
    have HE:=O he;clear he;go_wp2
    go_roundw
    case rel=>exact⟨k+1,by omega,by go_num,B4.out,T4.out,fun j y hj hy=>by
     rcases Nat.lt_or_ge j k with h3|h3
     ·exact AL.out j y h3 hy
     ·obtain rfl:j=k:=by omega
      have e:=HX.out;rw [hy] at e;rw [bn e];exact HE.out⟩
    case measure=>simp [intOf]; omega
  ·obtain rfl:k=l.length:=by omega
   have R:=O (Oz l n (fun j y hj hy=>AL.out j y hj hy));have c0:=HT.out.cell 0;have c1:=HT.out.cell 1;have c2:=HT.out.cell 2;simp at c0 c1 c2;have f0:=HT.out.fr 0;have f1:=HT.out.fr 1;have f2:=HT.out.fr 2;have abn:=HT.out.lt;go_wp2;have T5:=HT.out.adG aJ 0 ⟨#[]⟩;have B5:=uw HB.out (aI _) aJ 0 ⟨#[]⟩;unfold Sm at T5 B5;generalize World.setCell _ _ (au ⟨#[]⟩)=w6 at T5 B5 ⊢;have d0:=T5.cell 0;have d1:=T5.cell 1;have d2:=T5.cell 2;simp at d0 d1 d2;refine bD (v:=JN Z) (by simp [results,bW,go_sem,d0,d1,d2,JN]) rfl ⟨by rw [R.out],B5⟩
end At
namespace Rl
open Go.RowKit Go.Sort Pu Rw Pr Va
def JY (l:List An) (c:Cn):Bool:=match At.wP l c.1 with
 | some v=>dX c.2 v
 | none=>aJ
theorem Hr:∀ (l:List An) (n:ByteArray),At.wP l n=(l.find? fun a=>decide (a.1=n)).map (·.2)
 | [],n=>rfl
 | x::r,n=>by
  simp only [At.wP,List.find?_cons];by_cases h:x.1=n
  ·simp [h]
  ·simp [h,Hr r n]
theorem OH {p:List Cn} {l:List An} (h:NL l):vW p l=p.all (JY l):=by
 rw [NA h.nodup]
 congr 1
 funext c
 unfold JY;rw [Hr];cases l.find? fun a=>decide (a.1=c.1) <;> rfl
theorem LJ {α:Type} (f:α->Bool) (l:List α) (m:Nat) (h:l.length=m):(l.take m).all f=l.all f:=by rw [<- h,List.take_length]
theorem OJ (pv lv:aP) (p:List Cn) (l:List An) (w:aM) (hp:fK w pv (p.map r5)) (hl:sZ w lv l) (np:NF p) (nl:NL l) :
  bH ay 18 #[pv,lv] w fun e w'=>e=aT (aS (vW p l))/\Below w.heap.size w w':=by
 have CO:=O (OH (p:=p) nl);have HP:=O hp;have HL:=O (yU.2 hl);have h5:l.length<=100:=by have:=nl.five; omega
 have SM:=O np.small;have m5:p.length<=5:=np.five;obtain⟨ao,ac,rfl⟩:=hp.len;rw [aF] at HP ⊢;generalize hm:p.length=m at *;have HM:=O hm;generalize vW p l=r at *;clear hp hl hm np nl;go_enter Tryz.func18,Tryz.ntmps18;go_wp2
 go_loopw [11] (fun i wr=>∃ k:Nat,k<=m/\i=V X k/\Below w.heap.size w wr/\(p.take k).all (JY l)=aW) (fun i _=>m-(intOf i).toNat)
 case atStart=>exact⟨0,aZ _,rfl,ah _ _,rfl⟩
 case round =>
  obtain⟨k,hk,rfl,hb,hall⟩:=hrel;have HB:=O hb;have AL:=O hall;clear hb hall;by_cases hlt:k<m
  ·obtain⟨⟨xn,xk⟩,hx⟩:∃ x,p[k]?=Y x:=⟨_,aj (by rw [HM.out]; exact hlt)⟩;obtain⟨q,ix,px⟩:=Wm (x:=r5 (xn,xk)) HP.out rfl (by rw [aF]; exact HM.out) (by rw [aK,hx]; rfl);obtain⟨p0,p1,p2,p3,p4⟩:=px _ HB.out;have MO:=O (yK (JY l) p k (xn,xk) hx);have NO:=O (fun h=>Ed (JY l) p k (xn,xk) hx h);have SX:=O (SM.out _ (aO hx));have BX:=O (show dJ (wr.alloc (aD #[au xn,V X (kN xk),V X (jk xk),V X (jl xk),au (kT xk)] 106)) wr.heap.size (cells5 (xn,kN xk,jk xk,jl xk,kT xk)).toArray 106 from dL wr _ _);have B1:=O (HB.out.alloc HB.out.size (aD #[au xn,V X (kN xk),V X (jk xk),V X (jl xk),au (kT xk)] 106));have G:=O (At.adW lv l xn (wr.alloc (aD #[au xn,V X (kN xk),V X (jk xk),V X (jl xk),au (kT xk)] 106)) (HL.out.on B1.out) h5 (by have:xn.size<=100:=SX.out.1; unfold maxLen; omega));have GC:=O (show JY l (xn,xk)=match At.wP l xn with
    | some v=>dX xk v
    | none=>aJ from rfl)
   have HO:=O (fun t n s W=>Ce (xn,xk) t n s W);obtain⟨gg,hgg⟩:∃ g,JY l (xn,xk)=g:=⟨_,rfl⟩;rw [hgg] at GC MO NO;simp only [r5] at p0 p1 p2 p3 p4 HO;clear hx px hgg;go_wp2_with fail;refine G.out.mono ?_;rintro e2 w2 ⟨he2,hb2⟩;have B2:=O (B1.out.trans (hb2.mono B1.out.size));obtain⟨x0,x1,x2,x3,x4⟩:=eT (BX.out.on hb2);simp only at x0 x1 x2 x3 x4;have hwl:wr.heap.size<w2.heap.size:=by have:=hb2.size; simp at this; omega
   rcases hg:At.wP l xn with _|⟨t,n,s⟩
   ·rw [hg] at he2 GC;subst he2;have R:=O (show r=aJ by rw [CO.out]; exact NO.out GC.out);clear hb2 G B1 BX ix p0 p1 p2 p3 p4 hg;unfold At.JN;go_wp2;go_ret;exact⟨eD R.out.symm,B2.out.alloc B2.out.size _⟩
   ·rw [hg] at he2 GC;subst he2;clear hb2 G B1 BX ix p0 p1 p2 p3 p4 hg;unfold At.JN;go_wp2_with fail;refine (HO.out _ _ _ _).mono ?_;rintro e3 w3 ⟨rfl,hb3⟩;have B3:=O ((B2.out.alloc B2.out.size (aD #[aS t,V X n,au s] 93)).trans (hb3.mono (B2.out.alloc B2.out.size (aD #[aS t,V X n,au s] 93)).size));rw [<- GC.out];clear hb3 B2 x0 x1 x2 x3 x4 hwl;cases gg
    ·have R:=O (show r=aJ by rw [CO.out]; exact NO.out rfl);go_wp2;go_ret;exact⟨eD R.out.symm,B3.out⟩
    ·go_wp2
     go_roundw
     case rel=>exact⟨k+1,by omega,by go_num,B3.out,by rw [MO.out,AL.out]; rfl⟩
     case measure=>simp [intOf]; omega
  ·obtain rfl:k=m:=by omega
   have R:=O (show r=aW by rw [CO.out,<- LJ _ p _ HM.out]; exact AL.out);go_wp2;go_ret;exact⟨eD R.out.symm,HB.out⟩
theorem JZ (pv qv:aP) (p b:List Cn) (w:aM) (hp:fK w pv (p.map r5)) (hl:fK w qv (b.map r5)) (np:NF p) (nb:NF b) :
  bH ay 107 #[pv,qv] w fun e w'=>e=aT (aS (oz p b))/\Below w.heap.size w w':=by
 have CO:=O (NQ (a:=p) nb.rise);have HP:=O hp;have HL:=O hl;have h5:b.length<=100:=by have:=nb.five; omega
 have GP:=O np.iZ;have GB:=O nb.iZ;have m5:p.length<=5:=np.five;obtain⟨ao,ac,rfl⟩:=hp.len;rw [aF] at HP ⊢;generalize hm:p.length=m at *;have HM:=O hm;generalize oz p b=r at *;clear hp hl hm np nb;go_enter Tryz.func107,Tryz.ntmps107;go_wp2
 go_loopw [11] (fun i wr=>∃ k:Nat,k<=m/\i=V X k/\Below w.heap.size w wr/\(p.take k).all (JB b)=aW) (fun i _=>m-(intOf i).toNat)
 case atStart=>exact⟨0,aZ _,rfl,ah _ _,rfl⟩
 case round =>
  obtain⟨k,hk,rfl,hb,hall⟩:=hrel;have HB:=O hb;have AL:=O hall;clear hb hall;by_cases hlt:k<m
  ·obtain⟨⟨xn,xk⟩,hx⟩:∃ x,p[k]?=Y x:=⟨_,aj (by rw [HM.out]; exact hlt)⟩;obtain⟨q,ix,px⟩:=Wm (x:=r5 (xn,xk)) HP.out rfl (by rw [aF]; exact HM.out) (by rw [aK,hx]; rfl);obtain⟨p0,p1,p2,p3,p4⟩:=px _ HB.out;have MO:=O (yK (JB b) p k (xn,xk) hx);have NO:=O (fun h=>Ed (JB b) p k (xn,xk) hx h);have GX:=O (GP.out _ (aO hx));have BX:=O (show dJ (wr.alloc (aD #[au xn,V X (kN xk),V X (jk xk),V X (jl xk),au (kT xk)] 106)) wr.heap.size (cells5 (xn,kN xk,jk xk,jl xk,kT xk)).toArray 106 from dL wr _ _);have B1:=O (HB.out.alloc HB.out.size (aD #[au xn,V X (kN xk),V X (jk xk),V X (jl xk),au (kT xk)] 106));have G:=O (JO qv b xn (wr.alloc (aD #[au xn,V X (kN xk),V X (jk xk),V X (jl xk),au (kT xk)] 106)) (HL.out.on B1.out) h5);have GC:=O (show JB b (xn,xk)=match VT b xn with
    | some y=>eF y.2 xk
    | none=>aJ from rfl)
   obtain⟨gg,hgg⟩:∃ g,JB b (xn,xk)=g:=⟨_,rfl⟩;rw [hgg] at GC MO NO;simp only [r5] at p0 p1 p2 p3 p4;clear hx px hgg;go_wp2_with fail;refine G.out.mono ?_;rintro e2 w2 ⟨he2,hb2⟩;have B2:=O (B1.out.trans (hb2.mono B1.out.size));obtain⟨x0,x1,x2,x3,x4⟩:=eT (BX.out.on hb2);simp only at x0 x1 x2 x3 x4;have hwl:wr.heap.size<w2.heap.size:=by have:=hb2.size; simp at this; omega
   rcases hg:VT b xn with _|⟨yn,yk⟩
   ·rw [hg] at he2 GC;subst he2;have R:=O (show r=aJ by rw [CO.out]; exact NO.out GC.out);clear hb2 G B1 BX ix p0 p1 p2 p3 p4 hg;unfold ofV;go_wp2;go_ret;exact⟨eD R.out.symm,B2.out.alloc B2.out.size _⟩
   ·obtain⟨hm1,hm2⟩:=Q6 hg;obtain rfl:yn=xn:=hm2;rw [hg] at he2 GC;subst he2;have WC:=O (fun W=>Oj yn xk yk W GX.out (GB.out _ hm1));simp only [r5] at WC;clear hb2 G B1 BX ix p0 p1 p2 p3 p4 hg hm1;unfold ofV;simp only [r5];go_wp2_with fail;refine (WC.out _).mono ?_;rintro e3 w3 ⟨rfl,hb3⟩;have B3:=O ((B2.out.alloc B2.out.size (aD #[au yn,V X (kN yk),V X (jk yk),V X (jl yk),au (kT yk)] 106)).trans (hb3.mono (B2.out.alloc B2.out.size (aD #[au yn,V X (kN yk),V X (jk yk),V X (jl yk),au (kT yk)] 106)).size));rw [<- GC.out];clear hb3 B2 x0 x1 x2 x3 x4 hwl WC;cases gg
    ·have R:=O (show r=aJ by rw [CO.out]; exact NO.out rfl);go_wp2;go_ret;exact⟨eD R.out.symm,B3.out⟩
    ·go_wp2
     go_roundw
     case rel=>exact⟨k+1,by omega,by go_num,B3.out,by rw [MO.out,AL.out]; rfl⟩
     case measure=>simp [intOf]; omega
  ·obtain rfl:k=m:=by omega
   have R:=O (show r=aW by rw [CO.out,<- LJ _ p _ HM.out]; exact AL.out);go_wp2;go_ret;exact⟨eD R.out.symm,HB.out⟩
end Rl
namespace Rg
open Go.RowKit
end Rg
end Go.Proofs.YtkcfgbddlpomgaaGreat
