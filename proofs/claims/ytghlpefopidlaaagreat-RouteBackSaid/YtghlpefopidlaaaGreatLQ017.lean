/-
  slices.Insert of one. Conditions as told.
-/
import Derived.Deep.RegionWith
import Derived.Test.YtghlpefopidlaaaGreatLQ011
import Derived.Test.YtghlpefopidlaaaGreatLQ010
set_option maxRecDepth 100000
set_option maxHeartbeats 64000000
open _root_.Bool renaming and_eq_true->aj,eq_iff_iff->aH,true->aR,false->aT
open _root_.Go renaming World->aI,Value->aS,Calls->aW
open Go.Builtin renaming copy_->aC,append_->aQ
open Go.Ending renaming returned->aD
open Go.Instr renaming sliceAt->X
open Go.IntKind renaming i64->Z,wrap_i64->aP
open Go.Lib renaming hid->O
open Go.Obj renaming cells->ak
open Go.Proofs.Tryz renaming prog->L,results53->aB,ntmps53->aF,func53->aJ,ntmps106->aL,func106->aN
open Go.Proofs.YtghlpefopidlaaaGreat.Wi renaming within->V,jY->aU,kD->aX
open Go.RowKit.Below renaming refl->ah
open Go.Value renaming slice->D,int->ay,string->aO
open Go.World renaming cell?_alloc_at->aA,cell?_alloc_lt->aK
open _root_.List renaming getElem?_eq_getElem->au,mem_append->aG,find?_eq_none->aM
open _root_.Nat renaming le_refl->Y,lt_or_ge->aV
open _root_.Option renaming none->J,some->U
namespace Go.Proofs.YtghlpefopidlaaaGreat
namespace Av
open Go.RowKit Rw YtghlpefopidlaaaGreat.Nm Pr Bk
theorem Xq {W:aI} {b:Nat} {c:eU} (h:dK W b (kR c).toArray 23):wY W (D (U ⟨b,0,J⟩) 1 1) [c] :=
 Or.inr ⟨⟨b,0,J⟩,1,rfl,by simp,by decide,tu h (by simp [EJ])⟩
def Cu (B:Nat) (l:List eU) (k:Nat) (c:eU) (vv:aS) (W:aI) (e:Ending) (w':aI):Prop:=∃ v',e=aD v'/\uE w' B v' (l.take k++c::l.drop k)/\Below B W w'/\(∀ j,j<W.heap.size->U j≠vv.ownBlock->w'.heap[j]?=W.heap[j]?)
theorem Kn (B:Nat) (v:aS) (l:List eU) (c:eU) (b:Nat) (W:aI) (ho:uE W B v l) (hx:dK W b (kR c).toArray 23) (hl:l.length<=900) (hB:B<=W.heap.size) :
  aW L 106 #[v,ay Z (l.length:Nat),D (U ⟨b,0,J⟩) 1 1] W (Cu B l l.length c v W):=by
 obtain⟨v',w',hr,ho2,hg⟩:=gZ Ev B ho (Xq hx) (by omega) (by simp) hB 26;have hr:(aQ #[26,26] 26 #[v,D (U ⟨b,0,J⟩) 1 1]).run L W=.ok v' w':=hr;have Q:=O (show Cu B l l.length c v W (aD v') w' from ⟨v',rfl,by rw [List.take_of_length_le (Y _),List.drop_of_length_le (Y _)]; exact ho2,(ah B W).grown hg hB (fun j hj=>(ho.lt j hj).1),fun j hj hne=>hg.block j hj hne⟩);obtain⟨sx,hs,_⟩:=qB Ev (Row.dJ ho) l.length (Y _);have hs:∀ w,(X 26 v (U (ay Z l.length)) J J).run L w=.ok sx w:=hs;obtain⟨ao,ac,rfl⟩:=(Row.dJ ho).len;clear ho ho2 hg;generalize hn:l.length=n at *;clear hn;go_enter aN,aL;go_wp2_with (first | (at_builtin; refine wpList_append_run rfl _ _ 26 rfl rfl rfl hr ?_) | fail);go_ret;exact Q.out
theorem Xr (w:aI) (g b k la lb cb:Nat) (cur cs:Array aS) (hb:dK w b cs 23) (hg:dK w g cur 23) (hne:b≠g) (h0:0<cur.size):(callFunc 142 #[D (U ⟨b,0,J⟩) la 1,D (U ⟨g,k,J⟩) lb cb]).run L w=.ok (.value (.bool aT)) w:=by
 rw [run_callFunc_extern Tryz.func142 (by kernel_rfl) (by kernel_rfl) (by kernel_rfl) (e:=Extern.SlicesOverlaps.overlaps #[26,26] #[4]) (by kernel_rfl),
  Lib.run_overlaps_apart w 26 4 23 Tryz.underlying26 2 Tryz.sizeOf23 ⟨b,0,J⟩ ⟨g,k,J⟩ la 1 lb cb hne 23 23 cs.size cur.size hb.shape hg.shape (by omega) (hb.fr 0) (hb.fr _)]
 rfl
theorem Fe (B g n cap:Nat) (cur:Array aS) (l:List eU) (k:Nat) (c:eU) (b:Nat) (W:aI) (hn:n=l.length) (hBg:B<=g) (hg:dK W g cur 23) (hcm:cap<=maxLen) (hsz:cur.size=cap * 2) (ht:cur.toList.take (n * 2)=flat EJ l) (hx:dK W b (kR c).toArray 23) (hne:b≠g) (hk:k<n) (hroom:n+1<=cap) (hl:n<=900) :
  aW L 106 #[D (U ⟨g,0,J⟩) n cap,ay Z k,D (U ⟨b,0,J⟩) 1 1] W (Cu B l k c (D (U ⟨g,0,J⟩) n cap) W):=by
 obtain⟨R1,R2,r1,r2,ow⟩:=rW (E:=EJ) (l:=l) (k:=k) (cap:=cap) (cur:=cur) (cs:=(kR c).toArray) (c:=c) Ev (by omega) (by omega) hsz (by rw [<- hn]; exact ht) g b hne;have hov:=fun lb cb=>Xr W g b ((k+1) * 2) 1 lb cb cur (kR c).toArray hx hg hne (by omega);have s0:=gY (E:=EJ) Ev g k n cap (by omega) (by omega);have s1:=jZ (E:=EJ) Ev ⟨g,0,J⟩ (n+1) n cap (by omega);have s2:=gY (E:=EJ) Ev g (k+1) (n+1) cap (by omega) (by omega);have s3:=gY (E:=EJ) Ev g k (n+1) cap (by omega) (by omega);have q1:=r1 W.drew 3 (n+1-(k+1)) (cap-(k+1)) (n+1-k) (cap-k) hg (by omega);have q2:=r2 (W.drew.setRow g R1) 3 (n+1-k) (cap-k) (dK.set (show dK W.drew g cur 23 from hg) R1) (dK.other (show dK W.drew b _ 23 from hx) hne R1) rfl (by omega);have Q:=O (show Cu B l k c (D (U ⟨g,0,J⟩) n cap) W (aD (D (U ⟨g,0,J⟩) (n+1) cap)) ((W.drew.setRow g R1).setRow g R2) from ⟨_,rfl,by rw [hn]; exact ow _ B hBg hcm (dK.set (dK.set (show dK W.drew g cur 23 from hg) R1) R2),below_setRow (below_setRow (ah B W).drew hBg _) hBg _,fun j hj hne=>(setRow_other _ g j _ (fun e=>hne (by rw [e]; rfl))).trans (setRow_other _ g j _ (fun e=>hne (by rw [e]; rfl)))⟩);clear r1 r2 ow hg ht hx hsz hBg hcm;change ∀ w,(X 26 (D (U ⟨g,0,J⟩) n cap) (U (ay Z k)) J J).run L w=.ok (D (U ⟨g,k * 2,J⟩) (n-k) (cap-k)) w at s0;change ∀ w,(X 26 (D (U ⟨g,0,J⟩) n cap) J (U (ay Z ((n:Int)+1))) J).run L w=.ok (D (U ⟨g,0,J⟩) (n+1) cap) w at s1;change ∀ w,(X 26 (D (U ⟨g,0,J⟩) (n+1) cap) (U (ay Z ((k:Int)+1))) J J).run L w=.ok (D (U ⟨g,(k+1) * 2,J⟩) (n+1-(k+1)) (cap-(k+1))) w at s2;change ∀ w,(X 26 (D (U ⟨g,0,J⟩) (n+1) cap) (U (ay Z k)) J J).run L w=.ok (D (U ⟨g,k * 2,J⟩) (n+1-k) (cap-k)) w at s3;have e1:((k:Int) == (n:Int))=aT:=by rw [beq_eq_false_iff_ne]; omega
 have e2:decide ((cap:Int)<(n:Int)+1)=aT:=by simp; omega
 change (aC #[26,26] 3 #[D (U ⟨g,(k+1) * 2,J⟩) (n+1-(k+1)) (cap-(k+1)),D (U ⟨g,k * 2,J⟩) (n+1-k) (cap-k)]).run L W.drew=.ok (ay Z ((l.length-k:Nat):Int)) (W.drew.setRow g R1) at q1;change (aC #[26,26] 3 #[D (U ⟨g,k * 2,J⟩) (n+1-k) (cap-k),D (U ⟨b,0,J⟩) 1 1]).run L (W.drew.setRow g R1)=.ok (ay Z 1) ((W.drew.setRow g R1).setRow g R2) at q2;clear hn;go_enter aN,aL;go_wp2_with (first | (simp only [hov]) | fail);clear hov s0 s1 s2 s3;have hw1:IntKind.i64.wrap ((k:Int)+1)=(k:Int)+1:=by rw [aP]; omega
 have hb1:(0:Int)<=(k:Int)+1:=by omega
 have hb0:(k:Int)+1<=(n:Int)+1:=by omega
 have htn:((k:Int)+1).toNat=k+1:=by omega
 have hb2:¬ (cap=k+1):=by omega
 have hb3:(k:Int)<=(n:Int)+1:=by omega
 have hb4:¬ (cap=k):=by omega
 have h81:n+1-(k+1)=n-k:=by omega
 rw [h81] at q1;clear h81
 go_region_law (refine iP rfl (.tmp 73) (.tmp 76) 26 rfl (v:=D (U ⟨g,(k+1) * 2,J⟩) (n-k) (cap-(k+1))) (xv:=D (U ⟨g,k * 2,J⟩) (n+1-k) (cap-k)) (by simp [Act.eval,Act.put]) (by simp [Act.eval,Act.put]) q1 ?_)
 all_goals simp only [Exit.then]
 all_goals apply_assumption
 clear q1 hw1 hb1 hb0 htn hb2 hb3 hb4;have s3:=gY (E:=EJ) Ev g k (n+1) cap (by omega) (by omega);change ∀ w,(X 26 (D (U ⟨g,0,J⟩) (n+1) cap) (U (ay Z k)) J J).run L w=.ok (D (U ⟨g,k * 2,J⟩) (n+1-k) (cap-k)) w at s3;go_wp2_with (first | (at_builtin; refine wpList_copy_run rfl _ _ 26 rfl rfl rfl q2 ?_) | fail);go_ret;exact Q.out
theorem Je (B g n cap:Nat) (cur:Array aS) (l:List eU) (k:Nat) (c:eU) (b:Nat) (W:aI) (hn:n=l.length) (hg:dK W g cur 23) (hcm:cap<=maxLen) (hnc:n<=cap) (ht:cur.toList.take (n * 2)=flat EJ l) (hx:dK W b (kR c).toArray 23) (hk:k<n) (hroom:cap<n+1) (hl:n<=900) (hB:B<=W.heap.size) :
  aW L 106 #[D (U ⟨g,0,J⟩) n cap,ay Z k,D (U ⟨b,0,J⟩) 1 1] W (Cu B l k c (D (U ⟨g,0,J⟩) n cap) W):=by
 have hgw:=hg.lt;have hbw:=hx.lt;obtain⟨G,R1,R2,R3,hG1,hG2,r1,r2,r3,ow⟩:=uS (E:=EJ) (l:=l) (k:=k) (cap:=cap) (cur:=cur) (cs:=(kR c).toArray) (c:=c) Ev 3 Tryz.underlying3 (by omega) (by omega) (by omega) (by omega) (by rw [<- hn]; exact ht) W g b hg hbw;unfold maxLen at hcm hG2;have s0:=gY (E:=EJ) Ev g k n cap (by omega) (by omega);have s1:=jZ (E:=EJ) Ev ⟨g,0,J⟩ k n cap (by omega);have s2:=gY (E:=EJ) Ev W.heap.size k (n+1) G (by omega) (by omega);have s3:=gY (E:=EJ) Ev W.heap.size (k+1) (n+1) G (by omega) (by omega);have a1:=r1 26;have n1:=dQ W.drew R1 23;have bl:W.drew.heap.size=W.heap.size:=rfl;rw [bl] at n1;have g1:dK (W.drew.alloc (ak R1 23)) g cur 23:=dK.more (show dK W.drew g cur 23 from hg) _;have x1:dK (W.drew.alloc (ak R1 23)) b (kR c).toArray 23:=dK.more (show dK W.drew b _ 23 from hx) _;have q2:=r2 (W.drew.alloc (ak R1 23)) 3 (n+1-k) (G-k) n1 x1 rfl (by omega);have q3:=r3 ((W.drew.alloc (ak R1 23)).setRow W.heap.size R2).drew 3 (n+1-(k+1)) (G-(k+1)) (n-k) (cap-k) (dK.set n1 R2) (dK.other g1 (by omega) R2) (by omega);have Q:=O (show Cu B l k c (D (U ⟨g,0,J⟩) n cap) W (aD (D (U ⟨W.heap.size,0,J⟩) (n+1) G)) (((W.drew.alloc (ak R1 23)).setRow W.heap.size R2).drew.setRow W.heap.size R3) from ⟨_,rfl,by rw [hn]; exact ow _ B hB (dK.set (dK.set n1 R2) R3),below_setRow (below_setRow ((ah B W).drew.alloc hB _) hB _).drew hB _,fun j hj _=>(setRow_other _ W.heap.size j _ (by omega)).trans ((setRow_other _ W.heap.size j _ (by omega)).trans (Array.getElem?_push_lt hj |>.trans (Array.getElem?_eq_getElem hj).symm))⟩);have l1:l.length+1=n+1:=by rw [hn]
 rw [l1,<- hn] at a1;clear r1 r2 r3 ow hg ht hx g1 x1 n1 bl l1;change ∀ w,(X 26 (D (U ⟨g,0,J⟩) n cap) (U (ay Z k)) J J).run L w=.ok (D (U ⟨g,k * 2,J⟩) (n-k) (cap-k)) w at s0;change ∀ w,(X 26 (D (U ⟨g,0,J⟩) n cap) J (U (ay Z k)) J).run L w=.ok (D (U ⟨g,0,J⟩) k cap) w at s1;change ∀ w,(X 26 (D (U ⟨W.heap.size,0,J⟩) (n+1) G) (U (ay Z k)) J J).run L w=.ok (D (U ⟨W.heap.size,k * 2,J⟩) (n+1-k) (G-k)) w at s2;change ∀ w,(X 26 (D (U ⟨W.heap.size,0,J⟩) (n+1) G) (U (ay Z ((k:Int)+1))) J J).run L w=.ok (D (U ⟨W.heap.size,(k+1) * 2,J⟩) (n+1-(k+1)) (G-(k+1))) w at s3;change (aQ #[26,3] 26 #[D (U ⟨g,0,J⟩) k cap,ay Z ((n:Int)+1-k)]).run L W=.ok (D (U ⟨W.heap.size,0,J⟩) (n+1) G) (W.drew.alloc (ak R1 23)) at a1;change (aC #[26,26] 3 #[D (U ⟨W.heap.size,k * 2,J⟩) (n+1-k) (G-k),D (U ⟨b,0,J⟩) 1 1]).run L (W.drew.alloc (ak R1 23))=.ok (ay Z 1) ((W.drew.alloc (ak R1 23)).setRow W.heap.size R2) at q2;change (aC #[26,26] 3 #[D (U ⟨W.heap.size,(k+1) * 2,J⟩) (n+1-(k+1)) (G-(k+1)),D (U ⟨g,k * 2,J⟩) (n-k) (cap-k)]).run L ((W.drew.alloc (ak R1 23)).setRow W.heap.size R2).drew=.ok (ay Z ((l.length-k:Nat):Int)) (((W.drew.alloc (ak R1 23)).setRow W.heap.size R2).drew.setRow W.heap.size R3) at q3;have e1:((k:Int) == (n:Int))=aT:=by rw [beq_eq_false_iff_ne]; omega
 have e2:decide ((cap:Int)<(n:Int)+1)=aR:=by simp; omega
 have hGn:n+1<=G:=by omega
 clear hn;generalize W.heap.size=N at *;generalize W.drew.alloc (ak R1 23)=W1 at *;generalize W1.setRow N R2=W2 at *;go_enter aN,aL;go_wp2_with (first | (at_builtin; refine jf rfl _ _ 26 3 rfl rfl rfl a1 ?_) | (at_builtin; refine wpList_copy_run rfl _ _ 26 rfl rfl rfl q2 ?_) | fail);clear a1 q2 s0 s1 s2 s3;have hw1:IntKind.i64.wrap ((k:Int)+1)=(k:Int)+1:=by rw [aP]; omega
 have hb1:(0:Int)<=(k:Int)+1:=by omega
 have hb0:(k:Int)+1<=(n:Int)+1:=by omega
 have htn:((k:Int)+1).toNat=k+1:=by omega
 have hb2:¬ (G=k+1):=by omega
 have hb3:(k:Int)<=(n:Int):=by omega
 have hb4:¬ (cap=k):=by omega
 have h81:n+1-(k+1)=n-k:=by omega
 rw [h81] at q3;clear h81
 go_region_law (refine iP rfl (.tmp 50) (.tmp 53) 26 rfl (v:=D (U ⟨N,(k+1) * 2,J⟩) (n-k) (G-(k+1))) (xv:=D (U ⟨g,k * 2,J⟩) (n-k) (cap-k)) (by simp [Act.eval,Act.put]) (by simp [Act.eval,Act.put]) q3 ?_)
 all_goals simp only [Exit.then]
 all_goals apply_assumption
 go_wp2;go_ret;exact Q.out
theorem Ko (B:Nat) (v:aS) (l:List eU) (k:Nat) (c:eU) (b:Nat) (W:aI) (ho:uE W B v l) (hx:dK W b (kR c).toArray 23) (hne:v.ownBlock≠U b) (hk:k<=l.length) (hl:l.length<=900) (hB:B<=W.heap.size) :
  aW L 106 #[v,ay Z k,D (U ⟨b,0,J⟩) 1 1] W (Cu B l k c v W):=by
 rcases aV k l.length with h|h
 ·rcases gB ho with⟨_,h2⟩|⟨g,cap,cur,rfl,h1,h2,h3,h4,h5,h6⟩
  ·rw [h2] at h; simp at h
  ·rcases aV cap (l.length+1) with h7|h7
   ·exact Je B g _ cap cur l k c b W rfl h2 h4 h3 h6 hx h h7 hl hB
   ·exact Fe B g _ cap cur l k c b W rfl h1 h2 h4 h5 h6 hx (fun e=>hne (by simp [Value.ownBlock,e])) h h7 hl
 ·obtain rfl:k=l.length:=by omega
  exact Kn B v l c b W ho hx hl hB
end Av
namespace Pr
open Go.RowKit Pu Rw Va Kp
def lo9 (n:Int):Int:=V (n.tdiv 4) 0 9
def tx6 (n:Int):ByteArray:=wL (V (n.tdiv 4) 0 6)
def vk (n:Int):Kd:=if V n 0 3=0\/V n 0 3=1 then .rg (lo9 n) (lo9 n+V (n.tdiv 40) 0 9) else if V n 0 3=2 then .tx (tx6 n) else .pr (tx6 n)
theorem Uf (n:Int):iE (vk n)=aR:=by
 unfold vk;have hw:=aU (n.tdiv 40) 0 9 (by omega);have ht:(tx6 n).size<=3:=J3 _
 split
 ·simp only [iE,decide_eq_true_eq]; omega
 ·split
  ·simp only [iE,decide_eq_true_eq]; omega
  ·simp only [iE,decide_eq_true_eq]; omega
theorem Qm (n k:Int) (hk:1<=k) (h1:-9223372036854775808<=n) (h2:n<=9223372036854775807):-9223372036854775808<=n.tdiv k/\n.tdiv k<=9223372036854775807:=by
 rcases Int.le_total 0 n with h|h
 ·rw [Int.tdiv_eq_ediv_of_nonneg h];have a:=Int.ediv_nonneg h (show 0<=k by omega);have b:=Int.ediv_le_self k h;omega
 ·have e:n.tdiv k=-((-n) / k):=by rw [<- Int.tdiv_eq_ediv_of_nonneg (by omega),Int.neg_tdiv,Int.neg_neg]
  have a:=Int.ediv_nonneg (show 0<=-n by omega) (show 0<=k by omega);have b:=Int.ediv_le_self k (show 0<=-n by omega);omega
theorem Cv (nm_:ByteArray) (n:Int) (w:aI) (h1:-9223372036854775808<=n) (h2:n<=9223372036854775807) :
  aW L 53 #[aO nm_,ay Z n] w fun e w'=>e=aD (cv (r5 (nm_,vk n)))/\Below w.heap.size w w':=by
 have b4:=Qm n 4 (by decide) h1 h2;have b40:=Qm n 40 (by decide) h1 h2;have q4:IntKind.i64.wrap (n.tdiv 4)=n.tdiv 4:=IntWalk.i64_in _ b4;have q40:IntKind.i64.wrap (n.tdiv 40)=n.tdiv 40:=IntWalk.i64_in _ b40;have W3:=O (fun wx=>aX n 0 3 wx (by omega) (by omega) (by omega) h1 h2);have W9:=O (fun wx=>aX (n.tdiv 4) 0 9 wx (by omega) (by omega) (by omega) b4.1 b4.2);have W6:=O (fun wx=>aX (n.tdiv 4) 0 6 wx (by omega) (by omega) (by omega) b4.1 b4.2);have V9:=O (fun wx=>aX (n.tdiv 40) 0 9 wx (by omega) (by omega) (by omega) b40.1 b40.2);have d3:=aU n 0 3 (by omega);have d9:=aU (n.tdiv 4) 0 9 (by omega);have d6:=aU (n.tdiv 4) 0 6 (by omega);have e9:=aU (n.tdiv 40) 0 9 (by omega);have KD:vk n=if V n 0 3=0\/V n 0 3=1 then .rg (V (n.tdiv 4) 0 9) (V (n.tdiv 4) 0 9+V (n.tdiv 40) 0 9) else if V n 0 3=2 then .tx (wL (V (n.tdiv 4) 0 6)) else .pr (wL (V (n.tdiv 4) 0 6)):=rfl
 have TX:=O (abM (V (n.tdiv 4) 0 6) d6.1 d6.2);generalize V n 0 3=r at *;generalize V (n.tdiv 4) 0 9=p at *;generalize V (n.tdiv 4) 0 6=q at *;generalize V (n.tdiv 40) 0 9=s at *;have hs:IntKind.i64.wrap (p+s)=p+s:=IntWalk.i64_in _ (by omega);have hr:r=0\/r=1\/r=2\/r=3:=by omega
 have D6:=O d6;clear b4 b40 h1 h2 d3 d9 e9 d6;rcases hr with rfl|rfl|rfl|rfl
 ·have K:=O (show vk n=.rg p (p+s) by rw [KD]; rfl);clear KD;go_enter aJ,aF;go_wp2_with fail;refine (W3.out _).mono ?_;rintro e1 w1 ⟨rfl,rfl⟩;go_wp2_with fail;refine (W9.out _).mono ?_;rintro e2 w2 ⟨rfl,rfl⟩;go_wp2_with fail
  go_region_with (go_at_call 14; refine (V9.out _).mono ?_; rintro e w' ⟨rfl,rfl⟩)
  all_goals go_wp2_with fail
  all_goals exact bodyPost_ret (v:=cv (r5 (nm_,.rg p (p+s)))) (by simp [results,aB,go_sem,r5,kN,kH,kI,kT]) rfl ⟨by rw [K.out],(((ah _ _).alloc (Y _) _).alloc (by simp) _).drew⟩
 ·have K:=O (show vk n=.rg p (p+s) by rw [KD]; rfl);clear KD;go_enter aJ,aF;go_wp2_with fail;refine (W3.out _).mono ?_;rintro e1 w1 ⟨rfl,rfl⟩;go_wp2_with fail;refine (W9.out _).mono ?_;rintro e2 w2 ⟨rfl,rfl⟩;go_wp2_with fail
  go_region_with (go_at_call 14; refine (V9.out _).mono ?_; rintro e w' ⟨rfl,rfl⟩)
  all_goals go_wp2_with fail
  all_goals exact bodyPost_ret (v:=cv (r5 (nm_,.rg p (p+s)))) (by simp [results,aB,go_sem,r5,kN,kH,kI,kT]) rfl ⟨by rw [K.out],(((ah _ _).alloc (Y _) _).alloc (by simp) _).drew⟩
 ·have K:=O (show vk n=.tx (wL q) by rw [KD]; rfl);have tx:=TX.out;have d6:=D6.out;have d61:=d6.1;have d62:q<7:=by omega
  clear KD d6;go_enter aJ,aF;go_wp2_with fail;refine (W3.out _).mono ?_;rintro e1 w1 ⟨rfl,rfl⟩;go_wp2_with fail
  go_region_with (first | (go_at_call 14; refine (W6.out _).mono ?_; rintro e w' ⟨rfl,rfl⟩) | (go_at_call 122; refine (F9 _).mono ?_; rintro e w' ⟨rfl,rfl⟩))
  all_goals go_wp2_with fail
  all_goals exact bodyPost_ret (v:=cv (r5 (nm_,.tx (wL q)))) (by simp [results,aB,go_sem,r5,kN,kH,kI,kT]) rfl ⟨by rw [K.out],((((ah _ _).alloc (Y _) _).alloc (by simp) _).alloc (by simp; omega) _).drew⟩
 ·have K:=O (show vk n=.pr (wL q) by rw [KD]; rfl);have tx:=TX.out;have d6:=D6.out;have d61:=d6.1;have d62:q<7:=by omega
  clear KD d6;go_enter aJ,aF;go_wp2_with fail;refine (W3.out _).mono ?_;rintro e1 w1 ⟨rfl,rfl⟩;go_wp2_with fail
  go_region_with (first | (go_at_call 14; refine (W6.out _).mono ?_; rintro e w' ⟨rfl,rfl⟩) | (go_at_call 122; refine (F9 _).mono ?_; rintro e w' ⟨rfl,rfl⟩))
  all_goals go_wp2_with fail
  all_goals exact bodyPost_ret (v:=cv (r5 (nm_,.pr (wL q)))) (by simp [results,aB,go_sem,r5,kN,kH,kI,kT]) rfl ⟨by rw [K.out],((((ah _ _).alloc (Y _) _).alloc (by simp) _).alloc (by simp; omega) _).drew⟩
end Pr
namespace Pr
open Go.RowKit Pu Rw Va Kp In
def jw (has vals:List Int):Nat->List Cn
 | 0=>[]
 | i+1=>if i<has.length/\odd (has.getD i 0)=aR/\(jw has vals i).length<5 then jw has vals i++[(nm i,vk (uT vals i))] else jw has vals i
theorem Qn (has vals:List Int):∀ k,(jw has vals k).length<=k
 | 0=>Y _
 | k+1=>by
  have h:=Qn has vals k;simp only [jw]
  split
  ·simp; omega
  ·omega
theorem Kq (has vals:List Int):∀ k,(jw has vals k).length<=5
 | 0=>by simp [jw]
 | k+1=>by
  have h:=Kq has vals k;simp only [jw]
  split
  ·rename_i hc; simp; omega
  ·exact h
theorem wh (has vals:List Int):∀ k,∀ x∈jw has vals k,∃ i,i<k/\x.1=nm i
 | 0,x,h=>by simp [jw] at h
 | k+1,x,h=>by
  simp only [jw] at h
  split at h
  ·rcases aG.1 h with h|h
   ·obtain⟨i,h1,h2⟩:=wh has vals k x h;exact⟨i,by omega,h2⟩
   ·simp at h;exact⟨k,by omega,by rw [h]⟩
  ·obtain⟨i,h1,h2⟩:=wh has vals k x h;exact⟨i,by omega,h2⟩
theorem Cw (has vals:List Int):∀ k,∀ x∈jw has vals k,iE x.2=aR
 | 0,x,h=>by simp [jw] at h
 | k+1,x,h=>by
  simp only [jw] at h
  split at h
  ·rcases aG.1 h with h|h
   ·exact Cw has vals k x h
   ·simp at h;rw [h]; exact Uf _
  ·exact Cw has vals k x h
theorem ab1 (i j:Nat) (h:i<j) (hj:j<7):Op.bytesLess (nm i).toList (nm j).toList=aR:=by
 rw [ByteArray.toList_eq,ByteArray.toList_eq];have:∀ j:Fin 7,∀ i:Fin 7,i.val<j.val->Op.bytesLess (nm i.val).data.toList (nm j.val).data.toList=aR:=by decide
 exact this ⟨j,hj⟩ ⟨i,by omega⟩ h
theorem Kr (has vals:List Int):∀ k,k<=7->iU (jw has vals k)
 | 0,_=>by simp [jw,iU]
 | k+1,hk=>by
  have h:=Kr has vals k (by omega);simp only [jw]
  split
  ·refine List.pairwise_append.2 ⟨h,List.pairwise_singleton _ _,fun x hx y hy=>?_⟩;obtain⟨i,h1,h2⟩:=wh has vals k x hx;simp at hy;rw [hy,h2];exact ab1 i k h1 (by omega)
  ·exact h
theorem xX (w:aI) (c:C5):fI (w.alloc (ak #[aO c.1,ay Z c.2.1,ay Z c.2.2.1,ay Z c.2.2.2.1,aO c.2.2.2.2] 91)) (D (U ⟨w.heap.size,0,J⟩) 1 1) [c] :=
 Row.dJ (jC wF w [c] 1 rfl (by simp) _ rfl)
theorem Cx (hv vv:aS) (has vals:List Int) (w:aI) (hh:kQ w hv has) (hw:kQ w vv vals) (lh:has.length<=maxLen) (lv:vals.length<=maxLen) :
  aW L 15 #[.agg #[hv,vv]] w fun e w'=>∃ v,e=aD v/\iJ w' w.heap.size v ((jw has vals 7).map r5)/\Below w.heap.size w w':=by
 have HH:=O hh;have HW:=O hw;have LH:=O lh;have LV:=O lv;clear hh hw lh lv;go_enter Tryz.func15,Tryz.ntmps15;go_wp2_with fail;refine (Tv _).mono ?_;rintro e1 w1 ⟨rfl,rfl⟩;go_wp2
 go_loopw [3,8] (fun lv i wr=>∃ k:Nat,k<=7/\i=ay Z k/\iJ wr (w.heap.size+2) lv ((jw has vals k).map r5) /\
  Below (w.heap.size+2) ((w.alloc (ak #[hv,vv] 52)).alloc (ak xP 9)) wr) (fun _ i _=>7-(intOf i).toNat)
 case atStart=>exact⟨0,by omega,rfl,iO _ _,ah _ _⟩
 case round =>
  obtain⟨k,hk,rfl,hown,hb⟩:=hrel;have HO:=O hown;have HB:=O hb;have T0:Below w.heap.size w ((w.alloc (ak #[hv,vv] 52)).alloc (ak xP 9)):=((ah _ _).alloc (Y _) _).alloc (by simp) _;have BW:=O (T0.trans (hb.mono (by omega)));have hsz:w.heap.size+2<=wr.heap.size:=by have:=hb.size; simp at this; omega
  clear T0;obtain⟨ro,arj,hrl⟩:=(Row.dJ hown).len;rw [List.length_map] at hrl;have hl5:=Qn has vals k;by_cases h7:k<7
  ·have n0:wr.cell? ⟨w.heap.size+1,k,J⟩=U (aO (nm k)):=by
    rw [hb.cell (p:=⟨w.heap.size+1,k,J⟩) (by simp),aA _ _ _ _ (by simp)]; exact ajz k h7
   have b0:wr.cell? ⟨w.heap.size,0,J⟩=U hv:=by
    rw [hb.cell (p:=⟨w.heap.size,0,J⟩) (by simp),aK _ _ _ (by simp),aA _ _ _ _ rfl]; rfl
   have b1:wr.cell? ⟨w.heap.size,1,J⟩=U vv:=by
    rw [hb.cell (p:=⟨w.heap.size,1,J⟩) (by simp),aK _ _ _ (by simp),aA _ _ _ _ rfl]; rfl
   have IH:=O (HH.out.on BW.out);obtain⟨ao,ark,hsh⟩:=HH.out.shape;clear hb hown;subst hsh;subst hrl;have hkk:(k:Int)<7:=by omega
   by_cases h1:k<has.length
   ·obtain⟨y,hy⟩:∃ y,has[k]?=U y:=⟨_,au h1⟩;have hg:has.getD k 0=y:=by rw [List.getD_eq_getElem?_getD,hy]; rfl
    obtain⟨_,p,_,hix,hpc⟩:=IH.out.at_ k y hy;cases ho:odd y
    ·have T:=O (show jw has vals (k+1)=jw has vals k by simp only [jw]; rw [if_neg]; rintro⟨_,h2,_⟩; rw [hg,ho] at h2; cases h2);have hodd:(bits BinOp.and Z y 1 == 1)=aT:=ho;clear ho hy hg;go_wp2
     go_roundw
     case rel=>exact⟨k+1,by omega,by go_num,by rw [T.out]; exact HO.out,HB.out⟩
     case measure=>simp [intOf]; omega
    ·have hodd:(bits BinOp.and Z y 1 == 1)=aR:=ho;by_cases h5:(jw has vals k).length<5
     ·have T:=O (show (jw has vals (k+1)).map r5=(jw has vals k).map r5++[r5 (nm k,vk (uT vals k))] by simp only [jw]; rw [if_pos ⟨h1,by rw [hg,ho],h5⟩,List.map_append]; rfl);have PK:=O (fun (W:aI) (hW:Below w.heap.size w W)=>Wp vv vals k W (HW.out.on hW) LV.out (by omega));have bd:=Wq HW.out k;have KV:=O (fun W=>Cv (nm k) (uT vals k) W bd.1 bd.2);clear ho hy hg bd;go_wp2_with fail;refine (PK.out _ BW.out).mono ?_;rintro e1 w1 ⟨rfl,rfl⟩;go_wp2_with fail;refine (KV.out _).mono ?_;rintro e2 w2 ⟨rfl,hb2⟩;have B2:=O hb2;have O2:=O (dI HO.out hb2);have hs2:=hb2.size;clear hb2;generalize r5 (nm k,vk (uT vals k))=c at T ⊢;have O3a:=O (O2.out.alloc (ak #[aO c.1,ay Z c.2.1,ay Z c.2.2.1,ay Z c.2.2.2.1,aO c.2.2.2.2] 91));obtain⟨v3,w3,r3,o3,g3⟩:=gZ wF (w.heap.size+2) O3a.out (xX w2 c) (by simp; omega) (by simp) (by simp; omega) 34;have O3:=O o3;have hbel:Below (w.heap.size+2) wr w3:=((B2.out.mono hsz).alloc (by omega) _).grown g3 (by simp; omega) (fun j hj=>(O3a.out.lt j hj).1);have B3:=O (HB.out.trans hbel);clear o3 g3 hbel;go_wp2_with (first | (at_builtin; refine wpList_append_run rfl _ _ 34 rfl rfl rfl r3 ?_) | fail);clear r3;go_wp2
      go_roundw
      case rel=>exact⟨k+1,by omega,by go_num,by rw [T.out]; exact O3.out,B3.out⟩
      case measure=>simp [intOf]; omega
     ·have T:=O (show jw has vals (k+1)=jw has vals k by simp only [jw]; rw [if_neg]; rintro⟨_,_,h2⟩; exact h5 h2);clear ho hy hg;go_wp2
      go_roundw
      case rel=>exact⟨k+1,by omega,by go_num,by rw [T.out]; exact HO.out,HB.out⟩
      case measure=>simp [intOf]; omega
   ·have T:=O (show jw has vals (k+1)=jw has vals k by simp only [jw]; rw [if_neg]; rintro⟨h2,_⟩; exact h1 h2);go_wp2
    go_roundw
    case rel=>exact⟨k+1,by omega,by go_num,by rw [T.out]; exact HO.out,HB.out⟩
    case measure=>simp [intOf]; omega
  ·obtain rfl:k=7:=by omega
   clear hb hown;go_wp2;go_ret;exact⟨_,rfl,rU (by omega) HO.out,BW.out⟩
def Oh (c:Cn):Prop:=c.1.size<=100/\(kT c.2).size<=100/\(-9223372036854775808<=kH c.2/\kH c.2<=9223372036854775807)/\(-9223372036854775808<=kI c.2/\kI c.2<=9223372036854775807)
def Xt (l:List Cn):Prop:=l.length<=100/\∀ c∈l,Oh c
structure NF (l:List Cn):Prop where
 rise:iU l
 five:l.length<=5
 good:∀ c∈l,wJ c=aR
 small:∀ c∈l,Oh c
theorem NF.iE {l:List Cn} (h:NF l):∀ c∈l,Pr.iE c.2=aR:=fun c hc=>by
 have:=h.good c hc;simp only [wJ,aj] at this;exact this.2
theorem Xu (i:Nat) (h:i<7):pK (nm i)=aR:=by
 match i,h with
 | 0,_=>decide
 | 1,_=>decide
 | 2,_=>decide
 | 3,_=>decide
 | 4,_=>decide
 | 5,_=>decide
 | 6,_=>decide
theorem ab2 (i:Nat):(nm i).size=1:=rfl
theorem Xv (n:Int):(kT (vk n)).size<=100/\(-9223372036854775808<=kH (vk n)/\kH (vk n)<=9223372036854775807)/\(-9223372036854775808<=kI (vk n)/\kI (vk n)<=9223372036854775807):=by
 have h1:=aU (n.tdiv 4) 0 9 (by omega);have h2:=aU (n.tdiv 40) 0 9 (by omega);have ht:(tx6 n).size<=3:=J3 _;unfold vk lo9
 split
 ·refine⟨by show (0:Nat)<=100; omega,?_,?_⟩ <;> simp only [kH,kI] <;> omega
 ·split
  ·refine⟨by show (tx6 n).size<=100; omega,?_,?_⟩ <;> simp only [kH,kI] <;> omega
  ·refine⟨by show (tx6 n).size<=100; omega,?_,?_⟩ <;> simp only [kH,kI] <;> omega
theorem zm (has vals:List Int):∀ k,∀ x∈jw has vals k,Oh x
 | 0,x,h=>by simp [jw] at h
 | k+1,x,h=>by
  simp only [jw] at h
  split at h
  ·rcases aG.1 h with h|h
   ·exact zm has vals k x h
   ·simp at h;rw [h];exact⟨by show (nm k).size<=100; rw [ab2]; omega,Xv _⟩
  ·exact zm has vals k x h
theorem Xw (has vals:List Int):NF (jw has vals 7) :=
 ⟨Kr has vals 7 (Y _),Kq has vals 7,fun c hc=>by
  obtain⟨i,h1,h2⟩:=wh has vals 7 c hc;simp only [wJ,aj];exact⟨by rw [h2]; exact Xu i h1,Cw has vals 7 c hc⟩,zm has vals 7⟩
theorem ahU {a b:Cn} (h:r5 a=r5 b):a=b:=by
 obtain⟨n,a⟩:=a;obtain⟨m,b⟩:=b;simp only [r5,Prod.mk.injEq] at h;obtain⟨rfl,h1,h2,h3,h4⟩:=h;cases a <;> cases b <;> simp [kN,kH,kI,kT] at h1 h2 h3 h4 <;> simp [*]
end Pr
namespace Rl
open Go.RowKit Pu Pr
def ofC (p:List Cn) (n:ByteArray):Option Cn:=p.find? fun c=>decide (c.1=n)
theorem Xx {p:List Cn} {n:ByteArray} {y:Cn} (h:ofC p n=U y):y∈p/\y.1=n:=⟨List.mem_of_find?_eq_some h,by simpa using List.find?_some h⟩
theorem ajQ {p:List Cn} {n:ByteArray} {k:Nat} {y:Cn} (hk:p[k]?=U y) (he:y.1=n) (hn:∀ (j:Nat) (z:Cn),j<k->p[j]?=U z->z.1≠n):ofC p n=U y:=by
 unfold ofC;rw [List.find?_eq_some_iff_getElem];obtain⟨hlt,hy⟩:=List.getElem?_eq_some_iff.1 hk;refine⟨by simpa using he,k,hlt,hy,fun j hj=>?_⟩;have:=hn j p[j] hj (au (by omega));simpa using this
theorem ab3 {p:List Cn} {n:ByteArray} (hn:∀ (j:Nat) (z:Cn),j<p.length->p[j]?=U z->z.1≠n):ofC p n=J:=by
 unfold ofC;rw [aM];intro x hx;obtain⟨j,hj,e⟩:=List.getElem_of_mem hx;have:=hn j x hj (by rw [au hj,e]);simpa using this
def Oi (b:List Cn) (x:Cn):Bool:=match ofC b x.1 with
 | some y=>fE y.2 x.2
 | none=>aT
theorem Ug {a b:List Cn} (hb:iU b):qV a b=a.all (Oi b):=by
 unfold qV
 congr 1
 funext x
 unfold Oi;cases hf:ofC b x.1 with
 | none =>
  rw [List.any_eq_false];intro y hy;have:=aM.1 hf y hy;simp only [decide_eq_true_eq] at this;simp [this]
 | some y =>
  obtain⟨h1,h2⟩:=Xx hf;rw [aH,List.any_eq_true];constructor
  ·rintro⟨z,hz,h3⟩;simp only [aj,decide_eq_true_eq] at h3;rw [ajx hb h1 hz (h2.trans h3.1.symm)];exact h3.2
  ·intro h3;exact⟨y,h1,by simp [h2,h3]⟩
theorem Oj {n:ByteArray} {c d k:Kd} (hc:iE c=aR) (hd:iE d=aR) (h:fH c d=U k):Az (r5 (n,k)) (r5 (n,d))=fE d c:=by
 obtain⟨k1,k2⟩:=Fz c d k hc hd h;rw [aH,JY];constructor
 ·intro e;have e2:=ahU e;obtain rfl:k=d:=congrArg Prod.snd e2;exact EH k c hd fun v hv=>by rw [k2,aj] at hv; exact hv.1
 ·intro hi;have:k=d:=Ny k d k1 hd fun v=>by
   rw [k2,aH,aj];exact⟨fun h=>h.2,fun h=>⟨wK d c hi v h,h⟩⟩
  rw [this]
theorem Ol {c d:Kd} (hd:iE d=aR) (h:fH c d=J):fE d c=aT:=by
 rw [Bool.eq_false_iff];intro hi;obtain⟨v,hv⟩:=Bv d hd;have:=FJ c d h v;rw [hv,wK d c hi v hv] at this;cases this
/-! ### samples -/
/-! ### both together -/
end Rl
end Go.Proofs.YtghlpefopidlaaaGreat
