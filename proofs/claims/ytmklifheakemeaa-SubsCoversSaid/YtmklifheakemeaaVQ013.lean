/-
  slices.Insert of one. Conditions as told.
-/
import Derived.Test.YtmklifheakemeaaVQ010
import Derived.Test.YtmklifheakemeaaVQ011
import Derived.Deep.LoopGhost
set_option maxRecDepth 100000
set_option maxHeartbeats 64000000
open _root_.Go renaming World->ay,Value->aF,Calls->aJ
open Go.Act renaming eval->aB,put->aC
open Go.Builtin renaming copy_->U,append_->au
open Go.Ending renaming returned->Z
open Go.Extern.SlicesOverlaps renaming overlaps->ah
open Go.Instr renaming sliceAt->O
open Go.IntKind renaming i64->Y,wrap_i64->aj
open Go.Obj renaming cells->V
open Go.Proofs.Try renaming prog->K,ntmps52->aG,ntmps50->aH,underlying3->aI,func52->aK,func50->aM
open Go.RowKit.Below renaming refl->aA
open Go.Value renaming slice->D,int->X,ownBlock->aL
open _root_.Nat renaming le_refl->ak,lt_or_ge->aD
open _root_.Option renaming none->J,some->L
namespace Go.Proofs.Ytmklifheakemeaa
namespace Av
open Go.RowKit Rw Ytmklifheakemeaa.Nm Pr Bk
theorem F5 {W:ay} {b:Nat} {c:eu} (h:dH W b (jk c).toArray 25):rT W (D (L ⟨b,0,J⟩) 1 1) [c] :=
 Or.inr ⟨⟨b,0,J⟩,1,rfl,by simp,by decide,pq h (by simp [EJ])⟩
def sJ (B:Nat) (l:List eu) (k:Nat) (c:eu) (vv:aF) (W:ay) (e:Ending) (w':ay):Prop:=∃ v',e=Z v'/\mG w' B v' (l.take k++c::l.drop k)/\Below B W w'/\(∀ j,j<W.heap.size->L j≠vv.ownBlock->w'.heap[j]?=W.heap[j]?)
theorem yu (B:Nat) (v:aF) (l:List eu) (c:eu) (b:Nat) (W:ay) (ho:mG W B v l) (hx:dH W b (jk c).toArray 25) (hl:l.length<=900) (hB:B<=W.heap.size) :
  aJ K 52 #[v,X Y (l.length:Nat),D (L ⟨b,0,J⟩) 1 1] W (sJ B l l.length c v W):=by
 obtain⟨v',w',hr,ho2,hg⟩:=kP qY B ho (F5 hx) (by omega) (by simp) hB 27;have hr:(au #[27,27] 27 #[v,D (L ⟨b,0,J⟩) 1 1]).run K W=.ok v' w':=hr;have Q:=Lib.hid (show sJ B l l.length c v W (Z v') w' from ⟨v',rfl,by rw [List.take_of_length_le (ak _),List.drop_of_length_le (ak _)]; exact ho2,(aA B W).grown hg hB (fun j hj=>(ho.lt j hj).1),fun j hj hne=>hg.block j hj hne⟩);obtain⟨sx,hs,_⟩:=rH qY (Row.dM ho) l.length (ak _);have hs:∀ w,(O 27 v (L (X Y l.length)) J J).run K w=.ok sx w:=hs;obtain⟨ao,ac,rfl⟩:=(Row.dM ho).len;clear ho ho2 hg;generalize hn:l.length=n at *;clear hn;go_enter aK,aG;go_wp2_with (first | (at_builtin; refine wpList_append_run rfl _ _ 27 rfl rfl rfl hr ?_) | fail);go_ret;exact Q.out
theorem F6 (w:ay) (g b k la lb cb:Nat) (cur cs:Array aF) (hb:dH w b cs 25) (hg:dH w g cur 25) (hne:b≠g) (h0:0<cur.size):(callFunc 69 #[D (L ⟨b,0,J⟩) la 1,D (L ⟨g,k,J⟩) lb cb]).run K w=.ok (.value (.bool false)) w:=by
 rw [run_callFunc_extern Try.func69 (by kernel_rfl) (by kernel_rfl) (by kernel_rfl) (e:=ah #[27,27] #[4]) (by kernel_rfl),
  Lib.run_overlaps_apart w 27 4 25 Try.underlying27 2 Try.sizeOf25 ⟨b,0,J⟩ ⟨g,k,J⟩ la 1 lb cb hne 25 25 cs.size cur.size hb.shape hg.shape (by omega) (hb.fr 0) (hb.fr _)]
 rfl
theorem uS (B g n cap:Nat) (cur:Array aF) (l:List eu) (k:Nat) (c:eu) (b:Nat) (W:ay) (hn:n=l.length) (hBg:B<=g) (hg:dH W g cur 25) (hcm:cap<=maxLen) (hsz:cur.size=cap * 2) (ht:cur.toList.take (n * 2)=flat EJ l) (hx:dH W b (jk c).toArray 25) (hne:b≠g) (hk:k<n) (hroom:n+1<=cap) (hl:n<=900) :
  aJ K 52 #[D (L ⟨g,0,J⟩) n cap,X Y k,D (L ⟨b,0,J⟩) 1 1] W (sJ B l k c (D (L ⟨g,0,J⟩) n cap) W):=by
 obtain⟨R1,R2,r1,r2,ow⟩:=qy (E:=EJ) (l:=l) (k:=k) (cap:=cap) (cur:=cur) (cs:=(jk c).toArray) (c:=c) qY (by omega) (by omega) hsz (by rw [<- hn]; exact ht) g b hne;have hov:=fun lb cb=>F6 W g b ((k+1) * 2) 1 lb cb cur (jk c).toArray hx hg hne (by omega);have s0:=gI (E:=EJ) qY g k n cap (by omega) (by omega);have s1:=jE (E:=EJ) qY ⟨g,0,J⟩ (n+1) n cap (by omega);have s2:=gI (E:=EJ) qY g (k+1) (n+1) cap (by omega) (by omega);have s3:=gI (E:=EJ) qY g k (n+1) cap (by omega) (by omega);have q1:=r1 W.drew 3 (n+1-(k+1)) (cap-(k+1)) (n+1-k) (cap-k) hg (by omega);have q2:=r2 (W.drew.setRow g R1) 3 (n+1-k) (cap-k) (dH.set (show dH W.drew g cur 25 from hg) R1) (dH.other (show dH W.drew b _ 25 from hx) hne R1) rfl (by omega);have Q:=Lib.hid (show sJ B l k c (D (L ⟨g,0,J⟩) n cap) W (Z (D (L ⟨g,0,J⟩) (n+1) cap)) ((W.drew.setRow g R1).setRow g R2) from ⟨_,rfl,by rw [hn]; exact ow _ B hBg hcm (dH.set (dH.set (show dH W.drew g cur 25 from hg) R1) R2),below_setRow (below_setRow (aA B W).drew hBg _) hBg _,fun j hj hne=>(setRow_other _ g j _ (fun e=>hne (by rw [e]; rfl))).trans (setRow_other _ g j _ (fun e=>hne (by rw [e]; rfl)))⟩);clear r1 r2 ow hg ht hx hsz hBg hcm;change ∀ w,(O 27 (D (L ⟨g,0,J⟩) n cap) (L (X Y k)) J J).run K w=.ok (D (L ⟨g,k * 2,J⟩) (n-k) (cap-k)) w at s0;change ∀ w,(O 27 (D (L ⟨g,0,J⟩) n cap) J (L (X Y ((n:Int)+1))) J).run K w=.ok (D (L ⟨g,0,J⟩) (n+1) cap) w at s1;change ∀ w,(O 27 (D (L ⟨g,0,J⟩) (n+1) cap) (L (X Y ((k:Int)+1))) J J).run K w=.ok (D (L ⟨g,(k+1) * 2,J⟩) (n+1-(k+1)) (cap-(k+1))) w at s2;change ∀ w,(O 27 (D (L ⟨g,0,J⟩) (n+1) cap) (L (X Y k)) J J).run K w=.ok (D (L ⟨g,k * 2,J⟩) (n+1-k) (cap-k)) w at s3;have e1:((k:Int) == (n:Int))=false:=by rw [beq_eq_false_iff_ne]; omega
 have e2:decide ((cap:Int)<(n:Int)+1)=false:=by simp; omega
 change (U #[27,27] 3 #[D (L ⟨g,(k+1) * 2,J⟩) (n+1-(k+1)) (cap-(k+1)),D (L ⟨g,k * 2,J⟩) (n+1-k) (cap-k)]).run K W.drew=.ok (X Y ((l.length-k:Nat):Int)) (W.drew.setRow g R1) at q1;change (U #[27,27] 3 #[D (L ⟨g,k * 2,J⟩) (n+1-k) (cap-k),D (L ⟨b,0,J⟩) 1 1]).run K (W.drew.setRow g R1)=.ok (X Y 1) ((W.drew.setRow g R1).setRow g R2) at q2;clear hn;go_enter aK,aG;go_wp2_with (first | (simp only [hov]) | fail);clear hov s0 s1 s2 s3;have hw1:IntKind.i64.wrap ((k:Int)+1)=(k:Int)+1:=by rw [aj]; omega
 have hb1:(0:Int)<=(k:Int)+1:=by omega
 have hb0:(k:Int)+1<=(n:Int)+1:=by omega
 have htn:((k:Int)+1).toNat=k+1:=by omega
 have hb2:¬ (cap=k+1):=by omega
 have hb3:(k:Int)<=(n:Int)+1:=by omega
 have hb4:¬ (cap=k):=by omega
 have h81:n+1-(k+1)=n-k:=by omega
 rw [h81] at q1;clear h81
 go_region_law (refine iw rfl (.tmp 73) (.tmp 76) 27 rfl (v:=D (L ⟨g,(k+1) * 2,J⟩) (n-k) (cap-(k+1))) (xv:=D (L ⟨g,k * 2,J⟩) (n+1-k) (cap-k)) (by simp [aB,aC]) (by simp [aB,aC]) q1 ?_)
 all_goals simp only [Exit.then]
 all_goals apply_assumption
 clear q1 hw1 hb1 hb0 htn hb2 hb3 hb4;have s3:=gI (E:=EJ) qY g k (n+1) cap (by omega) (by omega);change ∀ w,(O 27 (D (L ⟨g,0,J⟩) (n+1) cap) (L (X Y k)) J J).run K w=.ok (D (L ⟨g,k * 2,J⟩) (n+1-k) (cap-k)) w at s3;go_wp2_with (first | (at_builtin; refine wpList_copy_run rfl _ _ 27 rfl rfl rfl q2 ?_) | fail);go_ret;exact Q.out
theorem wQ (B g n cap:Nat) (cur:Array aF) (l:List eu) (k:Nat) (c:eu) (b:Nat) (W:ay) (hn:n=l.length) (hg:dH W g cur 25) (hcm:cap<=maxLen) (hnc:n<=cap) (ht:cur.toList.take (n * 2)=flat EJ l) (hx:dH W b (jk c).toArray 25) (hk:k<n) (hroom:cap<n+1) (hl:n<=900) (hB:B<=W.heap.size) :
  aJ K 52 #[D (L ⟨g,0,J⟩) n cap,X Y k,D (L ⟨b,0,J⟩) 1 1] W (sJ B l k c (D (L ⟨g,0,J⟩) n cap) W):=by
 have hgw:=hg.lt;have hbw:=hx.lt;obtain⟨G,R1,R2,R3,hG1,hG2,r1,r2,r3,ow⟩:=rM (E:=EJ) (l:=l) (k:=k) (cap:=cap) (cur:=cur) (cs:=(jk c).toArray) (c:=c) qY 3 aI (by omega) (by omega) (by omega) (by omega) (by rw [<- hn]; exact ht) W g b hg hbw;unfold maxLen at hcm hG2;have s0:=gI (E:=EJ) qY g k n cap (by omega) (by omega);have s1:=jE (E:=EJ) qY ⟨g,0,J⟩ k n cap (by omega);have s2:=gI (E:=EJ) qY W.heap.size k (n+1) G (by omega) (by omega);have s3:=gI (E:=EJ) qY W.heap.size (k+1) (n+1) G (by omega) (by omega);have a1:=r1 27;have n1:=dO W.drew R1 25;have bl:W.drew.heap.size=W.heap.size:=rfl;rw [bl] at n1;have g1:dH (W.drew.alloc (V R1 25)) g cur 25:=dH.more (show dH W.drew g cur 25 from hg) _;have x1:dH (W.drew.alloc (V R1 25)) b (jk c).toArray 25:=dH.more (show dH W.drew b _ 25 from hx) _;have q2:=r2 (W.drew.alloc (V R1 25)) 3 (n+1-k) (G-k) n1 x1 rfl (by omega);have q3:=r3 ((W.drew.alloc (V R1 25)).setRow W.heap.size R2).drew 3 (n+1-(k+1)) (G-(k+1)) (n-k) (cap-k) (dH.set n1 R2) (dH.other g1 (by omega) R2) (by omega);have Q:=Lib.hid (show sJ B l k c (D (L ⟨g,0,J⟩) n cap) W (Z (D (L ⟨W.heap.size,0,J⟩) (n+1) G)) (((W.drew.alloc (V R1 25)).setRow W.heap.size R2).drew.setRow W.heap.size R3) from ⟨_,rfl,by rw [hn]; exact ow _ B hB (dH.set (dH.set n1 R2) R3),below_setRow (below_setRow ((aA B W).drew.alloc hB _) hB _).drew hB _,fun j hj _=>(setRow_other _ W.heap.size j _ (by omega)).trans ((setRow_other _ W.heap.size j _ (by omega)).trans (Array.getElem?_push_lt hj |>.trans (Array.getElem?_eq_getElem hj).symm))⟩);have l1:l.length+1=n+1:=by rw [hn]
 rw [l1,<- hn] at a1;clear r1 r2 r3 ow hg ht hx g1 x1 n1 bl l1;change ∀ w,(O 27 (D (L ⟨g,0,J⟩) n cap) (L (X Y k)) J J).run K w=.ok (D (L ⟨g,k * 2,J⟩) (n-k) (cap-k)) w at s0;change ∀ w,(O 27 (D (L ⟨g,0,J⟩) n cap) J (L (X Y k)) J).run K w=.ok (D (L ⟨g,0,J⟩) k cap) w at s1;change ∀ w,(O 27 (D (L ⟨W.heap.size,0,J⟩) (n+1) G) (L (X Y k)) J J).run K w=.ok (D (L ⟨W.heap.size,k * 2,J⟩) (n+1-k) (G-k)) w at s2;change ∀ w,(O 27 (D (L ⟨W.heap.size,0,J⟩) (n+1) G) (L (X Y ((k:Int)+1))) J J).run K w=.ok (D (L ⟨W.heap.size,(k+1) * 2,J⟩) (n+1-(k+1)) (G-(k+1))) w at s3;change (au #[27,3] 27 #[D (L ⟨g,0,J⟩) k cap,X Y ((n:Int)+1-k)]).run K W=.ok (D (L ⟨W.heap.size,0,J⟩) (n+1) G) (W.drew.alloc (V R1 25)) at a1;change (U #[27,27] 3 #[D (L ⟨W.heap.size,k * 2,J⟩) (n+1-k) (G-k),D (L ⟨b,0,J⟩) 1 1]).run K (W.drew.alloc (V R1 25))=.ok (X Y 1) ((W.drew.alloc (V R1 25)).setRow W.heap.size R2) at q2;change (U #[27,27] 3 #[D (L ⟨W.heap.size,(k+1) * 2,J⟩) (n+1-(k+1)) (G-(k+1)),D (L ⟨g,k * 2,J⟩) (n-k) (cap-k)]).run K ((W.drew.alloc (V R1 25)).setRow W.heap.size R2).drew=.ok (X Y ((l.length-k:Nat):Int)) (((W.drew.alloc (V R1 25)).setRow W.heap.size R2).drew.setRow W.heap.size R3) at q3;have e1:((k:Int) == (n:Int))=false:=by rw [beq_eq_false_iff_ne]; omega
 have e2:decide ((cap:Int)<(n:Int)+1)=true:=by simp; omega
 have hGn:n+1<=G:=by omega
 clear hn;generalize W.heap.size=N at *;generalize W.drew.alloc (V R1 25)=W1 at *;generalize W1.setRow N R2=W2 at *;go_enter aK,aG;go_wp2_with (first | (at_builtin; refine iV rfl _ _ 27 3 rfl rfl rfl a1 ?_) | (at_builtin; refine wpList_copy_run rfl _ _ 27 rfl rfl rfl q2 ?_) | fail);clear a1 q2 s0 s1 s2 s3;have hw1:IntKind.i64.wrap ((k:Int)+1)=(k:Int)+1:=by rw [aj]; omega
 have hb1:(0:Int)<=(k:Int)+1:=by omega
 have hb0:(k:Int)+1<=(n:Int)+1:=by omega
 have htn:((k:Int)+1).toNat=k+1:=by omega
 have hb2:¬ (G=k+1):=by omega
 have hb3:(k:Int)<=(n:Int):=by omega
 have hb4:¬ (cap=k):=by omega
 have h81:n+1-(k+1)=n-k:=by omega
 rw [h81] at q3;clear h81
 go_region_law (refine iw rfl (.tmp 50) (.tmp 53) 27 rfl (v:=D (L ⟨N,(k+1) * 2,J⟩) (n-k) (G-(k+1))) (xv:=D (L ⟨g,k * 2,J⟩) (n-k) (cap-k)) (by simp [aB,aC]) (by simp [aB,aC]) q3 ?_)
 all_goals simp only [Exit.then]
 all_goals apply_assumption
 go_wp2;go_ret;exact Q.out
theorem yw (B:Nat) (v:aF) (l:List eu) (k:Nat) (c:eu) (b:Nat) (W:ay) (ho:mG W B v l) (hx:dH W b (jk c).toArray 25) (hne:v.ownBlock≠L b) (hk:k<=l.length) (hl:l.length<=900) (hB:B<=W.heap.size) :
  aJ K 52 #[v,X Y k,D (L ⟨b,0,J⟩) 1 1] W (sJ B l k c v W):=by
 rcases aD k l.length with h|h
 ·rcases fD ho with⟨_,h2⟩|⟨g,cap,cur,rfl,h1,h2,h3,h4,h5,h6⟩
  ·rw [h2] at h; simp at h
  ·rcases aD cap (l.length+1) with h7|h7
   ·exact wQ B g _ cap cur l k c b W rfl h2 h4 h3 h6 hx h h7 hl hB
   ·exact uS B g _ cap cur l k c b W rfl h1 h2 h4 h5 h6 hx (fun e=>hne (by simp [aL,e])) h h7 hl
 ·obtain rfl:k=l.length:=by omega
  exact yu B v l c b W ho hx hl hB
theorem F7 {W:ay} {b:Nat} {c:jr} (h:dH W b (cellsD c).toArray 37):Af W (D (L ⟨b,0,J⟩) 1 1) [c] :=
 Or.inr ⟨⟨b,0,J⟩,1,rfl,by simp,by decide,pq h (by simp [ED])⟩
def sK (B:Nat) (l:List jr) (k:Nat) (c:jr) (vv:aF) (W:ay) (e:Ending) (w':ay):Prop:=∃ v',e=Z v'/\oL w' B v' (l.take k++c::l.drop k)/\Below B W w'/\(∀ j,j<W.heap.size->L j≠vv.ownBlock->w'.heap[j]?=W.heap[j]?)
theorem yx (B:Nat) (v:aF) (l:List jr) (c:jr) (b:Nat) (W:ay) (ho:oL W B v l) (hx:dH W b (cellsD c).toArray 37) (hl:l.length<=900) (hB:B<=W.heap.size) :
  aJ K 50 #[v,X Y (l.length:Nat),D (L ⟨b,0,J⟩) 1 1] W (sK B l l.length c v W):=by
 obtain⟨v',w',hr,ho2,hg⟩:=kP okD B ho (F7 hx) (by omega) (by simp) hB 26;have hr:(au #[26,26] 26 #[v,D (L ⟨b,0,J⟩) 1 1]).run K W=.ok v' w':=hr;have Q:=Lib.hid (show sK B l l.length c v W (Z v') w' from ⟨v',rfl,by rw [List.take_of_length_le (ak _),List.drop_of_length_le (ak _)]; exact ho2,(aA B W).grown hg hB (fun j hj=>(ho.lt j hj).1),fun j hj hne=>hg.block j hj hne⟩);obtain⟨sx,hs,_⟩:=rH okD (Row.dM ho) l.length (ak _);have hs:∀ w,(O 26 v (L (X Y l.length)) J J).run K w=.ok sx w:=hs;obtain⟨ao,ac,rfl⟩:=(Row.dM ho).len;clear ho ho2 hg;generalize hn:l.length=n at *;clear hn;go_enter aM,aH;go_wp2_with (first | (at_builtin; refine wpList_append_run rfl _ _ 26 rfl rfl rfl hr ?_) | fail);go_ret;exact Q.out
theorem F8 (w:ay) (g b k la lb cb:Nat) (cur cs:Array aF) (hb:dH w b cs 37) (hg:dH w g cur 37) (hne:b≠g) (h0:0<cur.size):(callFunc 67 #[D (L ⟨b,0,J⟩) la 1,D (L ⟨g,k,J⟩) lb cb]).run K w=.ok (.value (.bool false)) w:=by
 rw [run_callFunc_extern Try.func67 (by kernel_rfl) (by kernel_rfl) (by kernel_rfl) (e:=ah #[26,26] #[4]) (by kernel_rfl),
  Lib.run_overlaps_apart w 26 4 37 Try.underlying26 4 Try.sizeOf37 ⟨b,0,J⟩ ⟨g,k,J⟩ la 1 lb cb hne 37 37 cs.size cur.size hb.shape hg.shape (by omega) (hb.fr 0) (hb.fr _)]
 rfl
theorem uT (B g n cap:Nat) (cur:Array aF) (l:List jr) (k:Nat) (c:jr) (b:Nat) (W:ay) (hn:n=l.length) (hBg:B<=g) (hg:dH W g cur 37) (hcm:cap<=maxLen) (hsz:cur.size=cap * 4) (ht:cur.toList.take (n * 4)=flat ED l) (hx:dH W b (cellsD c).toArray 37) (hne:b≠g) (hk:k<n) (hroom:n+1<=cap) (hl:n<=900) :
  aJ K 50 #[D (L ⟨g,0,J⟩) n cap,X Y k,D (L ⟨b,0,J⟩) 1 1] W (sK B l k c (D (L ⟨g,0,J⟩) n cap) W):=by
 obtain⟨R1,R2,r1,r2,ow⟩:=qy (E:=ED) (l:=l) (k:=k) (cap:=cap) (cur:=cur) (cs:=(cellsD c).toArray) (c:=c) okD (by omega) (by omega) hsz (by rw [<- hn]; exact ht) g b hne;have hov:=fun lb cb=>F8 W g b ((k+1) * 4) 1 lb cb cur (cellsD c).toArray hx hg hne (by omega);have s0:=gI (E:=ED) okD g k n cap (by omega) (by omega);have s1:=jE (E:=ED) okD ⟨g,0,J⟩ (n+1) n cap (by omega);have s2:=gI (E:=ED) okD g (k+1) (n+1) cap (by omega) (by omega);have s3:=gI (E:=ED) okD g k (n+1) cap (by omega) (by omega);have q1:=r1 W.drew 3 (n+1-(k+1)) (cap-(k+1)) (n+1-k) (cap-k) hg (by omega);have q2:=r2 (W.drew.setRow g R1) 3 (n+1-k) (cap-k) (dH.set (show dH W.drew g cur 37 from hg) R1) (dH.other (show dH W.drew b _ 37 from hx) hne R1) rfl (by omega);have Q:=Lib.hid (show sK B l k c (D (L ⟨g,0,J⟩) n cap) W (Z (D (L ⟨g,0,J⟩) (n+1) cap)) ((W.drew.setRow g R1).setRow g R2) from ⟨_,rfl,by rw [hn]; exact ow _ B hBg hcm (dH.set (dH.set (show dH W.drew g cur 37 from hg) R1) R2),below_setRow (below_setRow (aA B W).drew hBg _) hBg _,fun j hj hne=>(setRow_other _ g j _ (fun e=>hne (by rw [e]; rfl))).trans (setRow_other _ g j _ (fun e=>hne (by rw [e]; rfl)))⟩);clear r1 r2 ow hg ht hx hsz hBg hcm;change ∀ w,(O 26 (D (L ⟨g,0,J⟩) n cap) (L (X Y k)) J J).run K w=.ok (D (L ⟨g,k * 4,J⟩) (n-k) (cap-k)) w at s0;change ∀ w,(O 26 (D (L ⟨g,0,J⟩) n cap) J (L (X Y ((n:Int)+1))) J).run K w=.ok (D (L ⟨g,0,J⟩) (n+1) cap) w at s1;change ∀ w,(O 26 (D (L ⟨g,0,J⟩) (n+1) cap) (L (X Y ((k:Int)+1))) J J).run K w=.ok (D (L ⟨g,(k+1) * 4,J⟩) (n+1-(k+1)) (cap-(k+1))) w at s2;change ∀ w,(O 26 (D (L ⟨g,0,J⟩) (n+1) cap) (L (X Y k)) J J).run K w=.ok (D (L ⟨g,k * 4,J⟩) (n+1-k) (cap-k)) w at s3;have e1:((k:Int) == (n:Int))=false:=by rw [beq_eq_false_iff_ne]; omega
 have e2:decide ((cap:Int)<(n:Int)+1)=false:=by simp; omega
 change (U #[26,26] 3 #[D (L ⟨g,(k+1) * 4,J⟩) (n+1-(k+1)) (cap-(k+1)),D (L ⟨g,k * 4,J⟩) (n+1-k) (cap-k)]).run K W.drew=.ok (X Y ((l.length-k:Nat):Int)) (W.drew.setRow g R1) at q1;change (U #[26,26] 3 #[D (L ⟨g,k * 4,J⟩) (n+1-k) (cap-k),D (L ⟨b,0,J⟩) 1 1]).run K (W.drew.setRow g R1)=.ok (X Y 1) ((W.drew.setRow g R1).setRow g R2) at q2;clear hn;go_enter aM,aH;go_wp2_with (first | (simp only [hov]) | fail);clear hov s0 s1 s2 s3;have hw1:IntKind.i64.wrap ((k:Int)+1)=(k:Int)+1:=by rw [aj]; omega
 have hb1:(0:Int)<=(k:Int)+1:=by omega
 have hb0:(k:Int)+1<=(n:Int)+1:=by omega
 have htn:((k:Int)+1).toNat=k+1:=by omega
 have hb2:¬ (cap=k+1):=by omega
 have hb3:(k:Int)<=(n:Int)+1:=by omega
 have hb4:¬ (cap=k):=by omega
 have h81:n+1-(k+1)=n-k:=by omega
 rw [h81] at q1;clear h81
 go_region_law (refine iw rfl (.tmp 73) (.tmp 76) 26 rfl (v:=D (L ⟨g,(k+1) * 4,J⟩) (n-k) (cap-(k+1))) (xv:=D (L ⟨g,k * 4,J⟩) (n+1-k) (cap-k)) (by simp [aB,aC]) (by simp [aB,aC]) q1 ?_)
 all_goals simp only [Exit.then]
 all_goals apply_assumption
 clear q1 hw1 hb1 hb0 htn hb2 hb3 hb4;have s3:=gI (E:=ED) okD g k (n+1) cap (by omega) (by omega);change ∀ w,(O 26 (D (L ⟨g,0,J⟩) (n+1) cap) (L (X Y k)) J J).run K w=.ok (D (L ⟨g,k * 4,J⟩) (n+1-k) (cap-k)) w at s3;go_wp2_with (first | (at_builtin; refine wpList_copy_run rfl _ _ 26 rfl rfl rfl q2 ?_) | fail);go_ret;exact Q.out
theorem wR (B g n cap:Nat) (cur:Array aF) (l:List jr) (k:Nat) (c:jr) (b:Nat) (W:ay) (hn:n=l.length) (hg:dH W g cur 37) (hcm:cap<=maxLen) (hnc:n<=cap) (ht:cur.toList.take (n * 4)=flat ED l) (hx:dH W b (cellsD c).toArray 37) (hk:k<n) (hroom:cap<n+1) (hl:n<=900) (hB:B<=W.heap.size) :
  aJ K 50 #[D (L ⟨g,0,J⟩) n cap,X Y k,D (L ⟨b,0,J⟩) 1 1] W (sK B l k c (D (L ⟨g,0,J⟩) n cap) W):=by
 have hgw:=hg.lt;have hbw:=hx.lt;obtain⟨G,R1,R2,R3,hG1,hG2,r1,r2,r3,ow⟩:=rM (E:=ED) (l:=l) (k:=k) (cap:=cap) (cur:=cur) (cs:=(cellsD c).toArray) (c:=c) okD 3 aI (by omega) (by omega) (by omega) (by omega) (by rw [<- hn]; exact ht) W g b hg hbw;unfold maxLen at hcm hG2;have s0:=gI (E:=ED) okD g k n cap (by omega) (by omega);have s1:=jE (E:=ED) okD ⟨g,0,J⟩ k n cap (by omega);have s2:=gI (E:=ED) okD W.heap.size k (n+1) G (by omega) (by omega);have s3:=gI (E:=ED) okD W.heap.size (k+1) (n+1) G (by omega) (by omega);have a1:=r1 26;have n1:=dO W.drew R1 37;have bl:W.drew.heap.size=W.heap.size:=rfl;rw [bl] at n1;have g1:dH (W.drew.alloc (V R1 37)) g cur 37:=dH.more (show dH W.drew g cur 37 from hg) _;have x1:dH (W.drew.alloc (V R1 37)) b (cellsD c).toArray 37:=dH.more (show dH W.drew b _ 37 from hx) _;have q2:=r2 (W.drew.alloc (V R1 37)) 3 (n+1-k) (G-k) n1 x1 rfl (by omega);have q3:=r3 ((W.drew.alloc (V R1 37)).setRow W.heap.size R2).drew 3 (n+1-(k+1)) (G-(k+1)) (n-k) (cap-k) (dH.set n1 R2) (dH.other g1 (by omega) R2) (by omega);have Q:=Lib.hid (show sK B l k c (D (L ⟨g,0,J⟩) n cap) W (Z (D (L ⟨W.heap.size,0,J⟩) (n+1) G)) (((W.drew.alloc (V R1 37)).setRow W.heap.size R2).drew.setRow W.heap.size R3) from ⟨_,rfl,by rw [hn]; exact ow _ B hB (dH.set (dH.set n1 R2) R3),below_setRow (below_setRow ((aA B W).drew.alloc hB _) hB _).drew hB _,fun j hj _=>(setRow_other _ W.heap.size j _ (by omega)).trans ((setRow_other _ W.heap.size j _ (by omega)).trans (Array.getElem?_push_lt hj |>.trans (Array.getElem?_eq_getElem hj).symm))⟩);have l1:l.length+1=n+1:=by rw [hn]
 rw [l1,<- hn] at a1;clear r1 r2 r3 ow hg ht hx g1 x1 n1 bl l1;change ∀ w,(O 26 (D (L ⟨g,0,J⟩) n cap) (L (X Y k)) J J).run K w=.ok (D (L ⟨g,k * 4,J⟩) (n-k) (cap-k)) w at s0;change ∀ w,(O 26 (D (L ⟨g,0,J⟩) n cap) J (L (X Y k)) J).run K w=.ok (D (L ⟨g,0,J⟩) k cap) w at s1;change ∀ w,(O 26 (D (L ⟨W.heap.size,0,J⟩) (n+1) G) (L (X Y k)) J J).run K w=.ok (D (L ⟨W.heap.size,k * 4,J⟩) (n+1-k) (G-k)) w at s2;change ∀ w,(O 26 (D (L ⟨W.heap.size,0,J⟩) (n+1) G) (L (X Y ((k:Int)+1))) J J).run K w=.ok (D (L ⟨W.heap.size,(k+1) * 4,J⟩) (n+1-(k+1)) (G-(k+1))) w at s3;change (au #[26,3] 26 #[D (L ⟨g,0,J⟩) k cap,X Y ((n:Int)+1-k)]).run K W=.ok (D (L ⟨W.heap.size,0,J⟩) (n+1) G) (W.drew.alloc (V R1 37)) at a1;change (U #[26,26] 3 #[D (L ⟨W.heap.size,k * 4,J⟩) (n+1-k) (G-k),D (L ⟨b,0,J⟩) 1 1]).run K (W.drew.alloc (V R1 37))=.ok (X Y 1) ((W.drew.alloc (V R1 37)).setRow W.heap.size R2) at q2;change (U #[26,26] 3 #[D (L ⟨W.heap.size,(k+1) * 4,J⟩) (n+1-(k+1)) (G-(k+1)),D (L ⟨g,k * 4,J⟩) (n-k) (cap-k)]).run K ((W.drew.alloc (V R1 37)).setRow W.heap.size R2).drew=.ok (X Y ((l.length-k:Nat):Int)) (((W.drew.alloc (V R1 37)).setRow W.heap.size R2).drew.setRow W.heap.size R3) at q3;have e1:((k:Int) == (n:Int))=false:=by rw [beq_eq_false_iff_ne]; omega
 have e2:decide ((cap:Int)<(n:Int)+1)=true:=by simp; omega
 have hGn:n+1<=G:=by omega
 clear hn;generalize W.heap.size=N at *;generalize W.drew.alloc (V R1 37)=W1 at *;generalize W1.setRow N R2=W2 at *;go_enter aM,aH;go_wp2_with (first | (at_builtin; refine iV rfl _ _ 26 3 rfl rfl rfl a1 ?_) | (at_builtin; refine wpList_copy_run rfl _ _ 26 rfl rfl rfl q2 ?_) | fail);clear a1 q2 s0 s1 s2 s3;have hw1:IntKind.i64.wrap ((k:Int)+1)=(k:Int)+1:=by rw [aj]; omega
 have hb1:(0:Int)<=(k:Int)+1:=by omega
 have hb0:(k:Int)+1<=(n:Int)+1:=by omega
 have htn:((k:Int)+1).toNat=k+1:=by omega
 have hb2:¬ (G=k+1):=by omega
 have hb3:(k:Int)<=(n:Int):=by omega
 have hb4:¬ (cap=k):=by omega
 have h81:n+1-(k+1)=n-k:=by omega
 rw [h81] at q3;clear h81
 go_region_law (refine iw rfl (.tmp 50) (.tmp 53) 26 rfl (v:=D (L ⟨N,(k+1) * 4,J⟩) (n-k) (G-(k+1))) (xv:=D (L ⟨g,k * 4,J⟩) (n-k) (cap-k)) (by simp [aB,aC]) (by simp [aB,aC]) q3 ?_)
 all_goals simp only [Exit.then]
 all_goals apply_assumption
 go_wp2;go_ret;exact Q.out
theorem yA (B:Nat) (v:aF) (l:List jr) (k:Nat) (c:jr) (b:Nat) (W:ay) (ho:oL W B v l) (hx:dH W b (cellsD c).toArray 37) (hne:v.ownBlock≠L b) (hk:k<=l.length) (hl:l.length<=900) (hB:B<=W.heap.size) :
  aJ K 50 #[v,X Y k,D (L ⟨b,0,J⟩) 1 1] W (sK B l k c v W):=by
 rcases aD k l.length with h|h
 ·rcases fD ho with⟨_,h2⟩|⟨g,cap,cur,rfl,h1,h2,h3,h4,h5,h6⟩
  ·rw [h2] at h; simp at h
  ·rcases aD cap (l.length+1) with h7|h7
   ·exact wR B g _ cap cur l k c b W rfl h2 h4 h3 h6 hx h h7 hl hB
   ·exact uT B g _ cap cur l k c b W rfl h1 h2 h4 h5 h6 hx (fun e=>hne (by simp [aL,e])) h h7 hl
 ·obtain rfl:k=l.length:=by omega
  exact yx B v l c b W ho hx hl hB
end Av
namespace Bk
open Go.RowKit Rw Ytmklifheakemeaa.Nm Pr
def gG {κ:Type} [DecidableEq κ]:List κ->κ->Int
 | [],_=>-1
 | a::l,x=>if a=x then 0 else if gG l x=-1 then -1 else gG l x+1
theorem su {κ:Type} [DecidableEq κ] (l:List κ) (x:κ) (h:∀ (j:Nat) (y:κ),l[j]?=L y->y≠x):gG l x=-1:=by
 induction l with
 | nil=>rfl
 | cons a l ih=>rw [gG,if_neg (h 0 a rfl),ih fun j y hj=>h (j+1) y (by simpa using hj),if_pos rfl]
theorem Fz {κ:Type} [DecidableEq κ] (l:List κ) (k:Nat) (x:κ) (h:l[k]?=L x) (hall:∀ (j:Nat) (z:κ),j<k->l[j]?=L z->z≠x):gG l x=k:=by
 induction l generalizing k with
 | nil=>simp at h
 | cons a l ih =>
  cases k with
  | zero =>
   obtain rfl:a=x:=by simpa using h
   rw [gG,if_pos rfl]
   rfl
  | succ k =>
   have h2:=ih k (by simpa using h) fun j z hj hz=>hall (j+1) z (by omega) (by simpa using hz);rw [gG,if_neg (hall 0 a (by omega) rfl),h2,if_neg (by omega)];omega
theorem jS {κ:Type} [DecidableEq κ] (l:List κ) (x:κ):gG l x=-1\/∃ k:Nat,gG l x=k/\l[k]?=L x:=by
 induction l with
 | nil=>exact Or.inl rfl
 | cons a l ih =>
  rw [gG];by_cases h:a=x
  ·rw [if_pos h];exact Or.inr ⟨0,rfl,by rw [h]; rfl⟩
  ·rw [if_neg h];rcases ih with h2|⟨k,h2,h3⟩
   ·rw [if_pos h2];exact Or.inl rfl
   ·rw [if_neg (by omega),h2];exact Or.inr ⟨k+1,by omega,by simpa using h3⟩
abbrev xR (e:gM):Id×Id:=((e.1,e.2.1),(e.2.2.1,e.2.2.2.1))
end Bk
namespace Rl
open Go.RowKit Pu Pr
end Rl
namespace Rl
open Go.RowKit Pu Rw Pr
end Rl
namespace Pr
open Go.RowKit Go.Sort Pu Rw Va
end Pr
end Go.Proofs.Ytmklifheakemeaa
