/-
  slices.Insert of one. Conditions as told.
-/
import Derived.Test.YtmklifheakemeaaGreatLQ004
import Derived.Deep.RegionWith
import Derived.Test.YtmklifheakemeaaGreatLQ009
set_option maxRecDepth 100000
set_option maxHeartbeats 64000000
open _root_.Bool renaming and_eq_true->aj,eq_iff_iff->aH,true->aR,false->aT
open _root_.Go renaming World->aI,Value->aS,Calls->aW
open Go.Builtin renaming copy_->aC,append_->aQ
open Go.Ending renaming returned->aD
open Go.Instr renaming sliceAt->X
open Go.IntKind renaming i64->Z,wrap_i64->aP
open Go.Lib renaming hid->O
open Go.Obj renaming cells->ak
open Go.Proofs.Tryz renaming prog->L,results43->aB,ntmps43->aF,func43->aJ,ntmps144->aL,func144->aN
open Go.Proofs.YtmklifheakemeaaGreat.Wi renaming within->V,ku->aU,nG->aX
open Go.RowKit.Below renaming refl->ah
open Go.Value renaming slice->D,int->ay,string->aO
open Go.World renaming cell?_alloc_at->aA,cell?_alloc_lt->aK
open _root_.List renaming getElem?_eq_getElem->au,mem_append->aG,find?_eq_none->aM
open _root_.Nat renaming le_refl->Y,lt_or_ge->aV
open _root_.Option renaming none->J,some->U
namespace Go.Proofs.YtmklifheakemeaaGreat
namespace Av
open Go.RowKit Rw YtmklifheakemeaaGreat.Nm Pr Bk
theorem Lp {W:aI} {b:Nat} {c:jk} (h:dI W b (cellsD c).toArray 74):Ao W (D (U ⟨b,0,J⟩) 1 1) [c] :=
 Or.inr ⟨⟨b,0,J⟩,1,rfl,by simp,by decide,oQ h (by simp [ED])⟩
def vN (B:Nat) (l:List jk) (k:Nat) (c:jk) (vv:aS) (W:aI) (e:Ending) (w':aI):Prop:=∃ v',e=aD v'/\qo w' B v' (l.take k++c::l.drop k)/\Below B W w'/\(∀ j,j<W.heap.size->U j≠vv.ownBlock->w'.heap[j]?=W.heap[j]?)
theorem Ba (B:Nat) (v:aS) (l:List jk) (c:jk) (b:Nat) (W:aI) (ho:qo W B v l) (hx:dI W b (cellsD c).toArray 74) (hl:l.length<=900) (hB:B<=W.heap.size) :
  aW L 144 #[v,ay Z (l.length:Nat),D (U ⟨b,0,J⟩) 1 1] W (vN B l l.length c v W):=by
 obtain⟨v',w',hr,ho2,hg⟩:=ji okD B ho (Lp hx) (by omega) (by simp) hB 23;have hr:(aQ #[23,23] 23 #[v,D (U ⟨b,0,J⟩) 1 1]).run L W=.ok v' w':=hr;have Q:=O (show vN B l l.length c v W (aD v') w' from ⟨v',rfl,by rw [List.take_of_length_le (Y _),List.drop_of_length_le (Y _)]; exact ho2,(ah B W).grown hg hB (fun j hj=>(ho.lt j hj).1),fun j hj hne=>hg.block j hj hne⟩);obtain⟨sx,hs,_⟩:=rU okD (Row.dG ho) l.length (Y _);have hs:∀ w,(X 23 v (U (ay Z l.length)) J J).run L w=.ok sx w:=hs;obtain⟨ao,ac,rfl⟩:=(Row.dG ho).len;clear ho ho2 hg;generalize hn:l.length=n at *;clear hn;go_enter aN,aL;go_wp2_with (first | (at_builtin; refine wpList_append_run rfl _ _ 23 rfl rfl rfl hr ?_) | fail);go_ret;exact Q.out
theorem Lr (w:aI) (g b k la lb cb:Nat) (cur cs:Array aS) (hb:dI w b cs 74) (hg:dI w g cur 74) (hne:b≠g) (h0:0<cur.size):(callFunc 166 #[D (U ⟨b,0,J⟩) la 1,D (U ⟨g,k,J⟩) lb cb]).run L w=.ok (.value (.bool aT)) w:=by
 rw [run_callFunc_extern Tryz.func166 (by kernel_rfl) (by kernel_rfl) (by kernel_rfl) (e:=Extern.SlicesOverlaps.overlaps #[23,23] #[4]) (by kernel_rfl),
  Lib.run_overlaps_apart w 23 4 74 Tryz.underlying23 4 Tryz.sizeOf74 ⟨b,0,J⟩ ⟨g,k,J⟩ la 1 lb cb hne 74 74 cs.size cur.size hb.shape hg.shape (by omega) (hb.fr 0) (hb.fr _)]
 rfl
theorem xO (B g n cap:Nat) (cur:Array aS) (l:List jk) (k:Nat) (c:jk) (b:Nat) (W:aI) (hn:n=l.length) (hBg:B<=g) (hg:dI W g cur 74) (hcm:cap<=maxLen) (hsz:cur.size=cap * 4) (ht:cur.toList.take (n * 4)=flat ED l) (hx:dI W b (cellsD c).toArray 74) (hne:b≠g) (hk:k<n) (hroom:n+1<=cap) (hl:n<=900) :
  aW L 144 #[D (U ⟨g,0,J⟩) n cap,ay Z k,D (U ⟨b,0,J⟩) 1 1] W (vN B l k c (D (U ⟨g,0,J⟩) n cap) W):=by
 obtain⟨R1,R2,r1,r2,ow⟩:=oU (E:=ED) (l:=l) (k:=k) (cap:=cap) (cur:=cur) (cs:=(cellsD c).toArray) (c:=c) okD (by omega) (by omega) hsz (by rw [<- hn]; exact ht) g b hne;have hov:=fun lb cb=>Lr W g b ((k+1) * 4) 1 lb cb cur (cellsD c).toArray hx hg hne (by omega);have s0:=gK (E:=ED) okD g k n cap (by omega) (by omega);have s1:=jc (E:=ED) okD ⟨g,0,J⟩ (n+1) n cap (by omega);have s2:=gK (E:=ED) okD g (k+1) (n+1) cap (by omega) (by omega);have s3:=gK (E:=ED) okD g k (n+1) cap (by omega) (by omega);have q1:=r1 W.drew 3 (n+1-(k+1)) (cap-(k+1)) (n+1-k) (cap-k) hg (by omega);have q2:=r2 (W.drew.setRow g R1) 3 (n+1-k) (cap-k) (dI.set (show dI W.drew g cur 74 from hg) R1) (dI.other (show dI W.drew b _ 74 from hx) hne R1) rfl (by omega);have Q:=O (show vN B l k c (D (U ⟨g,0,J⟩) n cap) W (aD (D (U ⟨g,0,J⟩) (n+1) cap)) ((W.drew.setRow g R1).setRow g R2) from ⟨_,rfl,by rw [hn]; exact ow _ B hBg hcm (dI.set (dI.set (show dI W.drew g cur 74 from hg) R1) R2),below_setRow (below_setRow (ah B W).drew hBg _) hBg _,fun j hj hne=>(setRow_other _ g j _ (fun e=>hne (by rw [e]; rfl))).trans (setRow_other _ g j _ (fun e=>hne (by rw [e]; rfl)))⟩);clear r1 r2 ow hg ht hx hsz hBg hcm;change ∀ w,(X 23 (D (U ⟨g,0,J⟩) n cap) (U (ay Z k)) J J).run L w=.ok (D (U ⟨g,k * 4,J⟩) (n-k) (cap-k)) w at s0;change ∀ w,(X 23 (D (U ⟨g,0,J⟩) n cap) J (U (ay Z ((n:Int)+1))) J).run L w=.ok (D (U ⟨g,0,J⟩) (n+1) cap) w at s1;change ∀ w,(X 23 (D (U ⟨g,0,J⟩) (n+1) cap) (U (ay Z ((k:Int)+1))) J J).run L w=.ok (D (U ⟨g,(k+1) * 4,J⟩) (n+1-(k+1)) (cap-(k+1))) w at s2;change ∀ w,(X 23 (D (U ⟨g,0,J⟩) (n+1) cap) (U (ay Z k)) J J).run L w=.ok (D (U ⟨g,k * 4,J⟩) (n+1-k) (cap-k)) w at s3;have e1:((k:Int) == (n:Int))=aT:=by rw [beq_eq_false_iff_ne]; omega
 have e2:decide ((cap:Int)<(n:Int)+1)=aT:=by simp; omega
 change (aC #[23,23] 3 #[D (U ⟨g,(k+1) * 4,J⟩) (n+1-(k+1)) (cap-(k+1)),D (U ⟨g,k * 4,J⟩) (n+1-k) (cap-k)]).run L W.drew=.ok (ay Z ((l.length-k:Nat):Int)) (W.drew.setRow g R1) at q1;change (aC #[23,23] 3 #[D (U ⟨g,k * 4,J⟩) (n+1-k) (cap-k),D (U ⟨b,0,J⟩) 1 1]).run L (W.drew.setRow g R1)=.ok (ay Z 1) ((W.drew.setRow g R1).setRow g R2) at q2;clear hn;go_enter aN,aL;go_wp2_with (first | (simp only [hov]) | fail);clear hov s0 s1 s2 s3;have hw1:IntKind.i64.wrap ((k:Int)+1)=(k:Int)+1:=by rw [aP]; omega
 have hb1:(0:Int)<=(k:Int)+1:=by omega
 have hb0:(k:Int)+1<=(n:Int)+1:=by omega
 have htn:((k:Int)+1).toNat=k+1:=by omega
 have hb2:¬ (cap=k+1):=by omega
 have hb3:(k:Int)<=(n:Int)+1:=by omega
 have hb4:¬ (cap=k):=by omega
 have h81:n+1-(k+1)=n-k:=by omega
 rw [h81] at q1;clear h81
 go_region_law (refine gZ rfl (.tmp 73) (.tmp 76) 23 rfl (v:=D (U ⟨g,(k+1) * 4,J⟩) (n-k) (cap-(k+1))) (xv:=D (U ⟨g,k * 4,J⟩) (n+1-k) (cap-k)) (by simp [Act.eval,Act.put]) (by simp [Act.eval,Act.put]) q1 ?_)
 all_goals simp only [Exit.then]
 all_goals apply_assumption
 clear q1 hw1 hb1 hb0 htn hb2 hb3 hb4;have s3:=gK (E:=ED) okD g k (n+1) cap (by omega) (by omega);change ∀ w,(X 23 (D (U ⟨g,0,J⟩) (n+1) cap) (U (ay Z k)) J J).run L w=.ok (D (U ⟨g,k * 4,J⟩) (n+1-k) (cap-k)) w at s3;go_wp2_with (first | (at_builtin; refine wpList_copy_run rfl _ _ 23 rfl rfl rfl q2 ?_) | fail);go_ret;exact Q.out
theorem zO (B g n cap:Nat) (cur:Array aS) (l:List jk) (k:Nat) (c:jk) (b:Nat) (W:aI) (hn:n=l.length) (hg:dI W g cur 74) (hcm:cap<=maxLen) (hnc:n<=cap) (ht:cur.toList.take (n * 4)=flat ED l) (hx:dI W b (cellsD c).toArray 74) (hk:k<n) (hroom:cap<n+1) (hl:n<=900) (hB:B<=W.heap.size) :
  aW L 144 #[D (U ⟨g,0,J⟩) n cap,ay Z k,D (U ⟨b,0,J⟩) 1 1] W (vN B l k c (D (U ⟨g,0,J⟩) n cap) W):=by
 have hgw:=hg.lt;have hbw:=hx.lt;obtain⟨G,R1,R2,R3,hG1,hG2,r1,r2,r3,ow⟩:=qF (E:=ED) (l:=l) (k:=k) (cap:=cap) (cur:=cur) (cs:=(cellsD c).toArray) (c:=c) okD 3 Tryz.underlying3 (by omega) (by omega) (by omega) (by omega) (by rw [<- hn]; exact ht) W g b hg hbw;unfold maxLen at hcm hG2;have s0:=gK (E:=ED) okD g k n cap (by omega) (by omega);have s1:=jc (E:=ED) okD ⟨g,0,J⟩ k n cap (by omega);have s2:=gK (E:=ED) okD W.heap.size k (n+1) G (by omega) (by omega);have s3:=gK (E:=ED) okD W.heap.size (k+1) (n+1) G (by omega) (by omega);have a1:=r1 23;have n1:=dL W.drew R1 74;have bl:W.drew.heap.size=W.heap.size:=rfl;rw [bl] at n1;have g1:dI (W.drew.alloc (ak R1 74)) g cur 74:=dI.more (show dI W.drew g cur 74 from hg) _;have x1:dI (W.drew.alloc (ak R1 74)) b (cellsD c).toArray 74:=dI.more (show dI W.drew b _ 74 from hx) _;have q2:=r2 (W.drew.alloc (ak R1 74)) 3 (n+1-k) (G-k) n1 x1 rfl (by omega);have q3:=r3 ((W.drew.alloc (ak R1 74)).setRow W.heap.size R2).drew 3 (n+1-(k+1)) (G-(k+1)) (n-k) (cap-k) (dI.set n1 R2) (dI.other g1 (by omega) R2) (by omega);have Q:=O (show vN B l k c (D (U ⟨g,0,J⟩) n cap) W (aD (D (U ⟨W.heap.size,0,J⟩) (n+1) G)) (((W.drew.alloc (ak R1 74)).setRow W.heap.size R2).drew.setRow W.heap.size R3) from ⟨_,rfl,by rw [hn]; exact ow _ B hB (dI.set (dI.set n1 R2) R3),below_setRow (below_setRow ((ah B W).drew.alloc hB _) hB _).drew hB _,fun j hj _=>(setRow_other _ W.heap.size j _ (by omega)).trans ((setRow_other _ W.heap.size j _ (by omega)).trans (Array.getElem?_push_lt hj |>.trans (Array.getElem?_eq_getElem hj).symm))⟩);have l1:l.length+1=n+1:=by rw [hn]
 rw [l1,<- hn] at a1;clear r1 r2 r3 ow hg ht hx g1 x1 n1 bl l1;change ∀ w,(X 23 (D (U ⟨g,0,J⟩) n cap) (U (ay Z k)) J J).run L w=.ok (D (U ⟨g,k * 4,J⟩) (n-k) (cap-k)) w at s0;change ∀ w,(X 23 (D (U ⟨g,0,J⟩) n cap) J (U (ay Z k)) J).run L w=.ok (D (U ⟨g,0,J⟩) k cap) w at s1;change ∀ w,(X 23 (D (U ⟨W.heap.size,0,J⟩) (n+1) G) (U (ay Z k)) J J).run L w=.ok (D (U ⟨W.heap.size,k * 4,J⟩) (n+1-k) (G-k)) w at s2;change ∀ w,(X 23 (D (U ⟨W.heap.size,0,J⟩) (n+1) G) (U (ay Z ((k:Int)+1))) J J).run L w=.ok (D (U ⟨W.heap.size,(k+1) * 4,J⟩) (n+1-(k+1)) (G-(k+1))) w at s3;change (aQ #[23,3] 23 #[D (U ⟨g,0,J⟩) k cap,ay Z ((n:Int)+1-k)]).run L W=.ok (D (U ⟨W.heap.size,0,J⟩) (n+1) G) (W.drew.alloc (ak R1 74)) at a1;change (aC #[23,23] 3 #[D (U ⟨W.heap.size,k * 4,J⟩) (n+1-k) (G-k),D (U ⟨b,0,J⟩) 1 1]).run L (W.drew.alloc (ak R1 74))=.ok (ay Z 1) ((W.drew.alloc (ak R1 74)).setRow W.heap.size R2) at q2;change (aC #[23,23] 3 #[D (U ⟨W.heap.size,(k+1) * 4,J⟩) (n+1-(k+1)) (G-(k+1)),D (U ⟨g,k * 4,J⟩) (n-k) (cap-k)]).run L ((W.drew.alloc (ak R1 74)).setRow W.heap.size R2).drew=.ok (ay Z ((l.length-k:Nat):Int)) (((W.drew.alloc (ak R1 74)).setRow W.heap.size R2).drew.setRow W.heap.size R3) at q3;have e1:((k:Int) == (n:Int))=aT:=by rw [beq_eq_false_iff_ne]; omega
 have e2:decide ((cap:Int)<(n:Int)+1)=aR:=by simp; omega
 have hGn:n+1<=G:=by omega
 clear hn;generalize W.heap.size=N at *;generalize W.drew.alloc (ak R1 74)=W1 at *;generalize W1.setRow N R2=W2 at *;go_enter aN,aL;go_wp2_with (first | (at_builtin; refine iA rfl _ _ 23 3 rfl rfl rfl a1 ?_) | (at_builtin; refine wpList_copy_run rfl _ _ 23 rfl rfl rfl q2 ?_) | fail);clear a1 q2 s0 s1 s2 s3;have hw1:IntKind.i64.wrap ((k:Int)+1)=(k:Int)+1:=by rw [aP]; omega
 have hb1:(0:Int)<=(k:Int)+1:=by omega
 have hb0:(k:Int)+1<=(n:Int)+1:=by omega
 have htn:((k:Int)+1).toNat=k+1:=by omega
 have hb2:¬ (G=k+1):=by omega
 have hb3:(k:Int)<=(n:Int):=by omega
 have hb4:¬ (cap=k):=by omega
 have h81:n+1-(k+1)=n-k:=by omega
 rw [h81] at q3;clear h81
 go_region_law (refine gZ rfl (.tmp 50) (.tmp 53) 23 rfl (v:=D (U ⟨N,(k+1) * 4,J⟩) (n-k) (G-(k+1))) (xv:=D (U ⟨g,k * 4,J⟩) (n-k) (cap-k)) (by simp [Act.eval,Act.put]) (by simp [Act.eval,Act.put]) q3 ?_)
 all_goals simp only [Exit.then]
 all_goals apply_assumption
 go_wp2;go_ret;exact Q.out
theorem Bb (B:Nat) (v:aS) (l:List jk) (k:Nat) (c:jk) (b:Nat) (W:aI) (ho:qo W B v l) (hx:dI W b (cellsD c).toArray 74) (hne:v.ownBlock≠U b) (hk:k<=l.length) (hl:l.length<=900) (hB:B<=W.heap.size) :
  aW L 144 #[v,ay Z k,D (U ⟨b,0,J⟩) 1 1] W (vN B l k c v W):=by
 rcases aV k l.length with h|h
 ·rcases gq ho with⟨_,h2⟩|⟨g,cap,cur,rfl,h1,h2,h3,h4,h5,h6⟩
  ·rw [h2] at h; simp at h
  ·rcases aV cap (l.length+1) with h7|h7
   ·exact zO B g _ cap cur l k c b W rfl h2 h4 h3 h6 hx h h7 hl hB
   ·exact xO B g _ cap cur l k c b W rfl h1 h2 h4 h5 h6 hx (fun e=>hne (by simp [Value.ownBlock,e])) h h7 hl
 ·obtain rfl:k=l.length:=by omega
  exact Ba B v l c b W ho hx hl hB
end Av
namespace Pr
open Go.RowKit Pu Rw Va Kp
def lo9 (n:Int):Int:=V (n.tdiv 4) 0 9
def WQ (n:Int):ByteArray:=p8 (V (n.tdiv 4) 0 6)
def om (n:Int):Kd:=if V n 0 3=0\/V n 0 3=1 then .rg (lo9 n) (lo9 n+V (n.tdiv 40) 0 9) else if V n 0 3=2 then .tx (WQ n) else .pr (WQ n)
theorem Jy (n:Int):gQ (om n)=aR:=by
 unfold om;have hw:=aU (n.tdiv 40) 0 9 (by omega);have ht:(WQ n).size<=3:=Ae _
 split
 ·simp only [gQ,decide_eq_true_eq]; omega
 ·split
  ·simp only [gQ,decide_eq_true_eq]; omega
  ·simp only [gQ,decide_eq_true_eq]; omega
theorem Gt (n k:Int) (hk:1<=k) (h1:-9223372036854775808<=n) (h2:n<=9223372036854775807):-9223372036854775808<=n.tdiv k/\n.tdiv k<=9223372036854775807:=by
 rcases Int.le_total 0 n with h|h
 ·rw [Int.tdiv_eq_ediv_of_nonneg h];have a:=Int.ediv_nonneg h (show 0<=k by omega);have b:=Int.ediv_le_self k h;omega
 ·have e:n.tdiv k=-((-n) / k):=by rw [<- Int.tdiv_eq_ediv_of_nonneg (by omega),Int.neg_tdiv,Int.neg_neg]
  have a:=Int.ediv_nonneg (show 0<=-n by omega) (show 0<=k by omega);have b:=Int.ediv_le_self k (show 0<=-n by omega);omega
theorem vO (WR:ByteArray) (n:Int) (w:aI) (h1:-9223372036854775808<=n) (h2:n<=9223372036854775807) :
  aW L 43 #[aO WR,ay Z n] w fun e w'=>e=aD (cv (r5 (WR,om n)))/\Below w.heap.size w w':=by
 have b4:=Gt n 4 (by decide) h1 h2;have b40:=Gt n 40 (by decide) h1 h2;have q4:IntKind.i64.wrap (n.tdiv 4)=n.tdiv 4:=IntWalk.i64_in _ b4;have q40:IntKind.i64.wrap (n.tdiv 40)=n.tdiv 40:=IntWalk.i64_in _ b40;have W3:=O (fun wx=>aX n 0 3 wx (by omega) (by omega) (by omega) h1 h2);have W9:=O (fun wx=>aX (n.tdiv 4) 0 9 wx (by omega) (by omega) (by omega) b4.1 b4.2);have W6:=O (fun wx=>aX (n.tdiv 4) 0 6 wx (by omega) (by omega) (by omega) b4.1 b4.2);have V9:=O (fun wx=>aX (n.tdiv 40) 0 9 wx (by omega) (by omega) (by omega) b40.1 b40.2);have d3:=aU n 0 3 (by omega);have d9:=aU (n.tdiv 4) 0 9 (by omega);have d6:=aU (n.tdiv 4) 0 6 (by omega);have e9:=aU (n.tdiv 40) 0 9 (by omega);have KD:om n=if V n 0 3=0\/V n 0 3=1 then .rg (V (n.tdiv 4) 0 9) (V (n.tdiv 4) 0 9+V (n.tdiv 40) 0 9) else if V n 0 3=2 then .tx (p8 (V (n.tdiv 4) 0 6)) else .pr (p8 (V (n.tdiv 4) 0 6)):=rfl
 have TX:=O (Qn (V (n.tdiv 4) 0 6) d6.1 d6.2);generalize V n 0 3=r at *;generalize V (n.tdiv 4) 0 9=p at *;generalize V (n.tdiv 4) 0 6=q at *;generalize V (n.tdiv 40) 0 9=s at *;have hs:IntKind.i64.wrap (p+s)=p+s:=IntWalk.i64_in _ (by omega);have hr:r=0\/r=1\/r=2\/r=3:=by omega
 have D6:=O d6;clear b4 b40 h1 h2 d3 d9 e9 d6;rcases hr with rfl|rfl|rfl|rfl
 ·have K:=O (show om n=.rg p (p+s) by rw [KD]; rfl);clear KD;go_enter aJ,aF;go_wp2_with fail;refine (W3.out _).mono ?_;rintro e1 w1 ⟨rfl,rfl⟩;go_wp2_with fail;refine (W9.out _).mono ?_;rintro e2 w2 ⟨rfl,rfl⟩;go_wp2_with fail
  go_region_with (go_at_call 13; refine (V9.out _).mono ?_; rintro e w' ⟨rfl,rfl⟩)
  all_goals go_wp2_with fail
  all_goals exact bodyPost_ret (v:=cv (r5 (WR,.rg p (p+s)))) (by simp [results,aB,go_sem,r5,kN,iJ,iK,kT]) rfl ⟨by rw [K.out],(((ah _ _).alloc (Y _) _).alloc (by simp) _).drew⟩
 ·have K:=O (show om n=.rg p (p+s) by rw [KD]; rfl);clear KD;go_enter aJ,aF;go_wp2_with fail;refine (W3.out _).mono ?_;rintro e1 w1 ⟨rfl,rfl⟩;go_wp2_with fail;refine (W9.out _).mono ?_;rintro e2 w2 ⟨rfl,rfl⟩;go_wp2_with fail
  go_region_with (go_at_call 13; refine (V9.out _).mono ?_; rintro e w' ⟨rfl,rfl⟩)
  all_goals go_wp2_with fail
  all_goals exact bodyPost_ret (v:=cv (r5 (WR,.rg p (p+s)))) (by simp [results,aB,go_sem,r5,kN,iJ,iK,kT]) rfl ⟨by rw [K.out],(((ah _ _).alloc (Y _) _).alloc (by simp) _).drew⟩
 ·have K:=O (show om n=.tx (p8 q) by rw [KD]; rfl);have tx:=TX.out;have d6:=D6.out;have d61:=d6.1;have d62:q<7:=by omega
  clear KD d6;go_enter aJ,aF;go_wp2_with fail;refine (W3.out _).mono ?_;rintro e1 w1 ⟨rfl,rfl⟩;go_wp2_with fail
  go_region_with (first | (go_at_call 13; refine (W6.out _).mono ?_; rintro e w' ⟨rfl,rfl⟩) | (go_at_call 105; refine (yg _).mono ?_; rintro e w' ⟨rfl,rfl⟩))
  all_goals go_wp2_with fail
  all_goals exact bodyPost_ret (v:=cv (r5 (WR,.tx (p8 q)))) (by simp [results,aB,go_sem,r5,kN,iJ,iK,kT]) rfl ⟨by rw [K.out],((((ah _ _).alloc (Y _) _).alloc (by simp) _).alloc (by simp; omega) _).drew⟩
 ·have K:=O (show om n=.pr (p8 q) by rw [KD]; rfl);have tx:=TX.out;have d6:=D6.out;have d61:=d6.1;have d62:q<7:=by omega
  clear KD d6;go_enter aJ,aF;go_wp2_with fail;refine (W3.out _).mono ?_;rintro e1 w1 ⟨rfl,rfl⟩;go_wp2_with fail
  go_region_with (first | (go_at_call 13; refine (W6.out _).mono ?_; rintro e w' ⟨rfl,rfl⟩) | (go_at_call 105; refine (yg _).mono ?_; rintro e w' ⟨rfl,rfl⟩))
  all_goals go_wp2_with fail
  all_goals exact bodyPost_ret (v:=cv (r5 (WR,.pr (p8 q)))) (by simp [results,aB,go_sem,r5,kN,iJ,iK,kT]) rfl ⟨by rw [K.out],((((ah _ _).alloc (Y _) _).alloc (by simp) _).alloc (by simp; omega) _).drew⟩
end Pr
namespace Pr
open Go.RowKit Pu Rw Va Kp In
def fZ (has vals:List Int):Nat->List Cn
 | 0=>[]
 | i+1=>if i<has.length/\odd (has.getD i 0)=aR/\(fZ has vals i).length<5 then fZ has vals i++[(nm i,om (nZ vals i))] else fZ has vals i
theorem Gu (has vals:List Int):∀ k,(fZ has vals k).length<=k
 | 0=>Y _
 | k+1=>by
  have h:=Gu has vals k;simp only [fZ]
  split
  ·simp; omega
  ·omega
theorem Bc (has vals:List Int):∀ k,(fZ has vals k).length<=5
 | 0=>by simp [fZ]
 | k+1=>by
  have h:=Bc has vals k;simp only [fZ]
  split
  ·rename_i hc; simp; omega
  ·exact h
theorem o8 (has vals:List Int):∀ k,∀ x∈fZ has vals k,∃ i,i<k/\x.1=nm i
 | 0,x,h=>by simp [fZ] at h
 | k+1,x,h=>by
  simp only [fZ] at h
  split at h
  ·rcases aG.1 h with h|h
   ·obtain⟨i,h1,h2⟩:=o8 has vals k x h;exact⟨i,by omega,h2⟩
   ·simp at h;exact⟨k,by omega,by rw [h]⟩
  ·obtain⟨i,h1,h2⟩:=o8 has vals k x h;exact⟨i,by omega,h2⟩
theorem vP (has vals:List Int):∀ k,∀ x∈fZ has vals k,gQ x.2=aR
 | 0,x,h=>by simp [fZ] at h
 | k+1,x,h=>by
  simp only [fZ] at h
  split at h
  ·rcases aG.1 h with h|h
   ·exact vP has vals k x h
   ·simp at h;rw [h]; exact Jy _
  ·exact vP has vals k x h
theorem QL (i j:Nat) (h:i<j) (hj:j<7):Op.bytesLess (nm i).toList (nm j).toList=aR:=by
 rw [ByteArray.toList_eq,ByteArray.toList_eq];have:∀ j:Fin 7,∀ i:Fin 7,i.val<j.val->Op.bytesLess (nm i.val).data.toList (nm j.val).data.toList=aR:=by decide
 exact this ⟨j,hj⟩ ⟨i,by omega⟩ h
theorem Bd (has vals:List Int):∀ k,k<=7->iP (fZ has vals k)
 | 0,_=>by simp [fZ,iP]
 | k+1,hk=>by
  have h:=Bd has vals k (by omega);simp only [fZ]
  split
  ·refine List.pairwise_append.2 ⟨h,List.pairwise_singleton _ _,fun x hx y hy=>?_⟩;obtain⟨i,h1,h2⟩:=o8 has vals k x hx;simp at hy;rw [hy,h2];exact QL i k h1 (by omega)
  ·exact h
theorem qM (w:aI) (c:C5):eY (w.alloc (ak #[aO c.1,ay Z c.2.1,ay Z c.2.2.1,ay Z c.2.2.2.1,aO c.2.2.2.2] 70)) (D (U ⟨w.heap.size,0,J⟩) 1 1) [c] :=
 Row.dG (kK p9 w [c] 1 rfl (by simp) _ rfl)
theorem mM (hv vv:aS) (has vals:List Int) (w:aI) (hh:gy w hv has) (hw:gy w vv vals) (lh:has.length<=maxLen) (lv:vals.length<=maxLen) :
  aW L 16 #[.agg #[hv,vv]] w fun e w'=>∃ v,e=aD v/\gG w' w.heap.size v ((fZ has vals 7).map r5)/\Below w.heap.size w w':=by
 have HH:=O hh;have HW:=O hw;have LH:=O lh;have LV:=O lv;clear hh hw lh lv;go_enter Tryz.func16,Tryz.ntmps16;go_wp2_with fail;refine (I5 _).mono ?_;rintro e1 w1 ⟨rfl,rfl⟩;go_wp2
 go_loopw [3,8] (fun lv i wr=>∃ k:Nat,k<=7/\i=ay Z k/\gG wr (w.heap.size+2) lv ((fZ has vals k).map r5) /\
  Below (w.heap.size+2) ((w.alloc (ak #[hv,vv] 49)).alloc (ak qH 9)) wr) (fun _ i _=>7-(intOf i).toNat)
 case atStart=>exact⟨0,by omega,rfl,jg _ _,ah _ _⟩
 case round =>
  obtain⟨k,hk,rfl,hown,hb⟩:=hrel;have HO:=O hown;have HB:=O hb;have T0:Below w.heap.size w ((w.alloc (ak #[hv,vv] 49)).alloc (ak qH 9)):=((ah _ _).alloc (Y _) _).alloc (by simp) _;have BW:=O (T0.trans (hb.mono (by omega)));have hsz:w.heap.size+2<=wr.heap.size:=by have:=hb.size; simp at this; omega
  clear T0;obtain⟨ro,adM,hrl⟩:=(Row.dG hown).len;rw [List.length_map] at hrl;have hl5:=Gu has vals k;by_cases h7:k<7
  ·have n0:wr.cell? ⟨w.heap.size+1,k,J⟩=U (aO (nm k)):=by
    rw [hb.cell (p:=⟨w.heap.size+1,k,J⟩) (by simp),aA _ _ _ _ (by simp)]; exact Xt k h7
   have b0:wr.cell? ⟨w.heap.size,0,J⟩=U hv:=by
    rw [hb.cell (p:=⟨w.heap.size,0,J⟩) (by simp),aK _ _ _ (by simp),aA _ _ _ _ rfl]; rfl
   have b1:wr.cell? ⟨w.heap.size,1,J⟩=U vv:=by
    rw [hb.cell (p:=⟨w.heap.size,1,J⟩) (by simp),aK _ _ _ (by simp),aA _ _ _ _ rfl]; rfl
   have IH:=O (HH.out.on BW.out);obtain⟨ao,adN,hsh⟩:=HH.out.shape;clear hb hown;subst hsh;subst hrl;have hkk:(k:Int)<7:=by omega
   by_cases h1:k<has.length
   ·obtain⟨y,hy⟩:∃ y,has[k]?=U y:=⟨_,au h1⟩;have hg:has.getD k 0=y:=by rw [List.getD_eq_getElem?_getD,hy]; rfl
    obtain⟨_,p,_,hix,hpc⟩:=IH.out.at_ k y hy;cases ho:odd y
    ·have T:=O (show fZ has vals (k+1)=fZ has vals k by simp only [fZ]; rw [if_neg]; rintro⟨_,h2,_⟩; rw [hg,ho] at h2; cases h2);have hodd:(bits BinOp.and Z y 1 == 1)=aT:=ho;clear ho hy hg;go_wp2
     go_roundw
     case rel=>exact⟨k+1,by omega,by go_num,by rw [T.out]; exact HO.out,HB.out⟩
     case measure=>simp [intOf]; omega
    ·have hodd:(bits BinOp.and Z y 1 == 1)=aR:=ho;by_cases h5:(fZ has vals k).length<5
     ·have T:=O (show (fZ has vals (k+1)).map r5=(fZ has vals k).map r5++[r5 (nm k,om (nZ vals k))] by simp only [fZ]; rw [if_pos ⟨h1,by rw [hg,ho],h5⟩,List.map_append]; rfl);have PK:=O (fun (W:aI) (hW:Below w.heap.size w W)=>Kw vv vals k W (HW.out.on hW) LV.out (by omega));have bd:=Ky HW.out k;have KV:=O (fun W=>vO (nm k) (nZ vals k) W bd.1 bd.2);clear ho hy hg bd;go_wp2_with fail;refine (PK.out _ BW.out).mono ?_;rintro e1 w1 ⟨rfl,rfl⟩;go_wp2_with fail;refine (KV.out _).mono ?_;rintro e2 w2 ⟨rfl,hb2⟩;have B2:=O hb2;have O2:=O (dJ HO.out hb2);have hs2:=hb2.size;clear hb2;generalize r5 (nm k,om (nZ vals k))=c at T ⊢;have O3a:=O (O2.out.alloc (ak #[aO c.1,ay Z c.2.1,ay Z c.2.2.1,ay Z c.2.2.2.1,aO c.2.2.2.2] 70));obtain⟨v3,w3,r3,o3,g3⟩:=ji p9 (w.heap.size+2) O3a.out (qM w2 c) (by simp; omega) (by simp) (by simp; omega) 32;have O3:=O o3;have hbel:Below (w.heap.size+2) wr w3:=((B2.out.mono hsz).alloc (by omega) _).grown g3 (by simp; omega) (fun j hj=>(O3a.out.lt j hj).1);have B3:=O (HB.out.trans hbel);clear o3 g3 hbel;go_wp2_with (first | (at_builtin; refine wpList_append_run rfl _ _ 32 rfl rfl rfl r3 ?_) | fail);clear r3;go_wp2
      go_roundw
      case rel=>exact⟨k+1,by omega,by go_num,by rw [T.out]; exact O3.out,B3.out⟩
      case measure=>simp [intOf]; omega
     ·have T:=O (show fZ has vals (k+1)=fZ has vals k by simp only [fZ]; rw [if_neg]; rintro⟨_,_,h2⟩; exact h5 h2);clear ho hy hg;go_wp2
      go_roundw
      case rel=>exact⟨k+1,by omega,by go_num,by rw [T.out]; exact HO.out,HB.out⟩
      case measure=>simp [intOf]; omega
   ·have T:=O (show fZ has vals (k+1)=fZ has vals k by simp only [fZ]; rw [if_neg]; rintro⟨h2,_⟩; exact h1 h2);go_wp2
    go_roundw
    case rel=>exact⟨k+1,by omega,by go_num,by rw [T.out]; exact HO.out,HB.out⟩
    case measure=>simp [intOf]; omega
  ·obtain rfl:k=7:=by omega
   clear hb hown;go_wp2;go_ret;exact⟨_,rfl,nW (by omega) HO.out,BW.out⟩
def Es (c:Cn):Prop:=c.1.size<=100/\(kT c.2).size<=100/\(-9223372036854775808<=iJ c.2/\iJ c.2<=9223372036854775807)/\(-9223372036854775808<=iK c.2/\iK c.2<=9223372036854775807)
def Ls (l:List Cn):Prop:=l.length<=100/\∀ c∈l,Es c
structure NF (l:List Cn):Prop where
 rise:iP l
 five:l.length<=5
 good:∀ c∈l,pY c=aR
 small:∀ c∈l,Es c
theorem NF.gQ {l:List Cn} (h:NF l):∀ c∈l,Pr.gQ c.2=aR:=fun c hc=>by
 have:=h.good c hc;simp only [pY,aj] at this;exact this.2
theorem Lu (i:Nat) (h:i<7):kV (nm i)=aR:=by
 match i,h with
 | 0,_=>decide
 | 1,_=>decide
 | 2,_=>decide
 | 3,_=>decide
 | 4,_=>decide
 | 5,_=>decide
 | 6,_=>decide
theorem QM (i:Nat):(nm i).size=1:=rfl
theorem Lv (n:Int):(kT (om n)).size<=100/\(-9223372036854775808<=iJ (om n)/\iJ (om n)<=9223372036854775807)/\(-9223372036854775808<=iK (om n)/\iK (om n)<=9223372036854775807):=by
 have h1:=aU (n.tdiv 4) 0 9 (by omega);have h2:=aU (n.tdiv 40) 0 9 (by omega);have ht:(WQ n).size<=3:=Ae _;unfold om lo9
 split
 ·refine⟨by show (0:Nat)<=100; omega,?_,?_⟩ <;> simp only [iJ,iK] <;> omega
 ·split
  ·refine⟨by show (WQ n).size<=100; omega,?_,?_⟩ <;> simp only [iJ,iK] <;> omega
  ·refine⟨by show (WQ n).size<=100; omega,?_,?_⟩ <;> simp only [iJ,iK] <;> omega
theorem sF (has vals:List Int):∀ k,∀ x∈fZ has vals k,Es x
 | 0,x,h=>by simp [fZ] at h
 | k+1,x,h=>by
  simp only [fZ] at h
  split at h
  ·rcases aG.1 h with h|h
   ·exact sF has vals k x h
   ·simp at h;rw [h];exact⟨by show (nm k).size<=100; rw [QM]; omega,Lv _⟩
  ·exact sF has vals k x h
theorem Lx (has vals:List Int):NF (fZ has vals 7) :=
 ⟨Bd has vals 7 (Y _),Bc has vals 7,fun c hc=>by
  obtain⟨i,h1,h2⟩:=o8 has vals 7 c hc;simp only [pY,aj];exact⟨by rw [h2]; exact Lu i h1,vP has vals 7 c hc⟩,sF has vals 7⟩
theorem Vf {a b:Cn} (h:r5 a=r5 b):a=b:=by
 obtain⟨n,a⟩:=a;obtain⟨m,b⟩:=b;simp only [r5,Prod.mk.injEq] at h;obtain⟨rfl,h1,h2,h3,h4⟩:=h;cases a <;> cases b <;> simp [kN,iJ,iK,kT] at h1 h2 h3 h4 <;> simp [*]
end Pr
namespace Rl
open Go.RowKit Pu Pr
def Qj (p:List Cn) (n:ByteArray):Option Cn:=p.find? fun c=>decide (c.1=n)
theorem LG {p:List Cn} {n:ByteArray} {y:Cn} (h:Qj p n=U y):y∈p/\y.1=n:=⟨List.mem_of_find?_eq_some h,by simpa using List.find?_some h⟩
theorem XM {p:List Cn} {n:ByteArray} {k:Nat} {y:Cn} (hk:p[k]?=U y) (he:y.1=n) (hn:∀ (j:Nat) (z:Cn),j<k->p[j]?=U z->z.1≠n):Qj p n=U y:=by
 unfold Qj;rw [List.find?_eq_some_iff_getElem];obtain⟨hlt,hy⟩:=List.getElem?_eq_some_iff.1 hk;refine⟨by simpa using he,k,hlt,hy,fun j hj=>?_⟩;have:=hn j p[j] hj (au (by omega));simpa using this
theorem QN {p:List Cn} {n:ByteArray} (hn:∀ (j:Nat) (z:Cn),j<p.length->p[j]?=U z->z.1≠n):Qj p n=J:=by
 unfold Qj;rw [aM];intro x hx;obtain⟨j,hj,e⟩:=List.getElem_of_mem hx;have:=hn j x hj (by rw [au hj,e]);simpa using this
def Et (b:List Cn) (x:Cn):Bool:=match Qj b x.1 with
 | some y=>eF y.2 x.2
 | none=>aT
theorem Jz {a b:List Cn} (hb:iP b):lV a b=a.all (Et b):=by
 unfold lV
 congr 1
 funext x
 unfold Et;cases hf:Qj b x.1 with
 | none =>
  rw [List.any_eq_false];intro y hy;have:=aM.1 hf y hy;simp only [decide_eq_true_eq] at this;simp [this]
 | some y =>
  obtain⟨h1,h2⟩:=LG hf;rw [aH,List.any_eq_true];constructor
  ·rintro⟨z,hz,h3⟩;simp only [aj,decide_eq_true_eq] at h3;rw [XA hb h1 hz (h2.trans h3.1.symm)];exact h3.2
  ·intro h3;exact⟨y,h1,by simp [h2,h3]⟩
theorem Eu {n:ByteArray} {c d k:Kd} (hc:gQ c=aR) (hd:gQ d=aR) (h:eX c d=U k):uE (r5 (n,k)) (r5 (n,d))=eF d c:=by
 obtain⟨k1,k2⟩:=IU c d k hc hd h;rw [aH,Al];constructor
 ·intro e;have e2:=Vf e;obtain rfl:k=d:=congrArg Prod.snd e2;exact xL k c hd fun v hv=>by rw [k2,aj] at hv; exact hv.1
 ·intro hi;have:k=d:=DV k d k1 hd fun v=>by
   rw [k2,aH,aj];exact⟨fun h=>h.2,fun h=>⟨qd d c hi v h,h⟩⟩
  rw [this]
theorem Ev {c d:Kd} (hd:gQ d=aR) (h:eX c d=J):eF d c=aT:=by
 rw [Bool.eq_false_iff];intro hi;obtain⟨v,hv⟩:=DU d hd;have:=IW c d h v;rw [hv,qd d c hi v hv] at this;cases this
/-! ### samples -/
/-! ### both together -/
end Rl
end Go.Proofs.YtmklifheakemeaaGreat
