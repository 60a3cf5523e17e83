/-
  slices.Insert of one. Conditions as told.
-/
import Derived.Test.YtkcfgbddlpomgaaBQ006
import Derived.Lib.QuietBelow
import Derived.BigQuiet
set_option maxRecDepth 100000
set_option maxHeartbeats 64000000
open _root_.Go renaming World->ay,Value->aF,Calls->aJ,maxLen->aL
open Go.Act renaming eval->aB,put->aC
open Go.Builtin renaming copy_->U,append_->au
open Go.Ending renaming returned->Z
open Go.Extern.SlicesOverlaps renaming overlaps->ah
open Go.Instr renaming sliceAt->O
open Go.IntKind renaming i64->Y,wrap_i64->aj
open Go.Obj renaming cells->V
open Go.Proofs.Try renaming prog->K,ntmps36->aG,ntmps34->aH,underlying3->aI,func36->aK,func34->aN
open Go.RowKit.Below renaming refl->aA
open Go.Value renaming slice->D,int->X,ownBlock->aM
open _root_.Nat renaming le_refl->ak,lt_or_ge->aD
open _root_.Option renaming none->J,some->L
namespace Go.Proofs.Ytkcfgbddlpomgaa.Av
open Go.RowKit Rw Ytkcfgbddlpomgaa.Nm Pr Bk
theorem xW {W:ay} {b:Nat} {c:dI} (h:dh W b (gM c).toArray 23):oq W (D (L ⟨b,0,J⟩) 1 1) [c] :=
 Or.inr ⟨⟨b,0,J⟩,1,rfl,by simp,by decide,jL h (by simp [EJ])⟩
def mo (B:Nat) (l:List dI) (k:Nat) (c:dI) (vv:aF) (W:ay) (e:Ending) (w':ay):Prop:=∃ v',e=Z v'/\pG w' B v' (l.take k++c::l.drop k)/\Below B W w'/\(∀ j,j<W.heap.size->L j≠vv.ownBlock->w'.heap[j]?=W.heap[j]?)
theorem ql (B:Nat) (v:aF) (l:List dI) (c:dI) (b:Nat) (W:ay) (ho:pG W B v l) (hx:dh W b (gM c).toArray 23) (hl:l.length<=900) (hB:B<=W.heap.size) :
  aJ K 36 #[v,X Y (l.length:Nat),D (L ⟨b,0,J⟩) 1 1] W (mo B l l.length c v W):=by
 obtain⟨v',w',hr,ho2,hg⟩:=iq qI B ho (xW hx) (by omega) (by simp) hB 26;have hr:(au #[26,26] 26 #[v,D (L ⟨b,0,J⟩) 1 1]).run K W=.ok v' w':=hr;have Q:=Lib.hid (show mo B l l.length c v W (Z v') w' from ⟨v',rfl,by rw [List.take_of_length_le (ak _),List.drop_of_length_le (ak _)]; exact ho2,(aA B W).grown hg hB (fun j hj=>(ho.lt j hj).1),fun j hj hne=>hg.block j hj hne⟩);obtain⟨sx,hs,_⟩:=qM qI (Row.dw ho) l.length (ak _);have hs:∀ w,(O 26 v (L (X Y l.length)) J J).run K w=.ok sx w:=hs;obtain⟨ao,ac,rfl⟩:=(Row.dw ho).len;clear ho ho2 hg;generalize hn:l.length=n at *;clear hn;go_enter aK,aG;go_wp2_with (first | (at_builtin; refine wpList_append_run rfl _ _ 26 rfl rfl rfl hr ?_) | fail);go_ret;exact Q.out
theorem xX (w:ay) (g b k la lb cb:Nat) (cur cs:Array aF) (hb:dh w b cs 23) (hg:dh w g cur 23) (hne:b≠g) (h0:0<cur.size):(callFunc 54 #[D (L ⟨b,0,J⟩) la 1,D (L ⟨g,k,J⟩) lb cb]).run K w=.ok (.value (.bool false)) w:=by
 rw [run_callFunc_extern Try.func54 (by kernel_rfl) (by kernel_rfl) (by kernel_rfl) (e:=ah #[26,26] #[4]) (by kernel_rfl),
  Lib.run_overlaps_apart w 26 4 23 Try.underlying26 2 Try.sizeOf23 ⟨b,0,J⟩ ⟨g,k,J⟩ la 1 lb cb hne 23 23 cs.size cur.size hb.shape hg.shape (by omega) (hb.fr 0) (hb.fr _)]
 rfl
theorem ng (B g n cap:Nat) (cur:Array aF) (l:List dI) (k:Nat) (c:dI) (b:Nat) (W:ay) (hn:n=l.length) (hBg:B<=g) (hg:dh W g cur 23) (hcm:cap<=aL) (hsz:cur.size=cap * 2) (ht:cur.toList.take (n * 2)=flat EJ l) (hx:dh W b (gM c).toArray 23) (hne:b≠g) (hk:k<n) (hroom:n+1<=cap) (hl:n<=900) :
  aJ K 36 #[D (L ⟨g,0,J⟩) n cap,X Y k,D (L ⟨b,0,J⟩) 1 1] W (mo B l k c (D (L ⟨g,0,J⟩) n cap) W):=by
 obtain⟨R1,R2,r1,r2,ow⟩:=kg (E:=EJ) (l:=l) (k:=k) (cap:=cap) (cur:=cur) (cs:=(gM c).toArray) (c:=c) qI (by omega) (by omega) hsz (by rw [<- hn]; exact ht) g b hne;have hov:=fun lb cb=>xX W g b ((k+1) * 2) 1 lb cb cur (gM c).toArray hx hg hne (by omega);have s0:=eD (E:=EJ) qI g k n cap (by omega) (by omega);have s1:=iC (E:=EJ) qI ⟨g,0,J⟩ (n+1) n cap (by omega);have s2:=eD (E:=EJ) qI g (k+1) (n+1) cap (by omega) (by omega);have s3:=eD (E:=EJ) qI g k (n+1) cap (by omega) (by omega);have q1:=r1 W.drew 3 (n+1-(k+1)) (cap-(k+1)) (n+1-k) (cap-k) hg (by omega);have q2:=r2 (W.drew.setRow g R1) 3 (n+1-k) (cap-k) (dh.set (show dh W.drew g cur 23 from hg) R1) (dh.other (show dh W.drew b _ 23 from hx) hne R1) rfl (by omega);have Q:=Lib.hid (show mo B l k c (D (L ⟨g,0,J⟩) n cap) W (Z (D (L ⟨g,0,J⟩) (n+1) cap)) ((W.drew.setRow g R1).setRow g R2) from ⟨_,rfl,by rw [hn]; exact ow _ B hBg hcm (dh.set (dh.set (show dh W.drew g cur 23 from hg) R1) R2),below_setRow (below_setRow (aA B W).drew hBg _) hBg _,fun j hj hne=>(setRow_other _ g j _ (fun e=>hne (by rw [e]; rfl))).trans (setRow_other _ g j _ (fun e=>hne (by rw [e]; rfl)))⟩);clear r1 r2 ow hg ht hx hsz hBg hcm;change ∀ w,(O 26 (D (L ⟨g,0,J⟩) n cap) (L (X Y k)) J J).run K w=.ok (D (L ⟨g,k * 2,J⟩) (n-k) (cap-k)) w at s0;change ∀ w,(O 26 (D (L ⟨g,0,J⟩) n cap) J (L (X Y ((n:Int)+1))) J).run K w=.ok (D (L ⟨g,0,J⟩) (n+1) cap) w at s1;change ∀ w,(O 26 (D (L ⟨g,0,J⟩) (n+1) cap) (L (X Y ((k:Int)+1))) J J).run K w=.ok (D (L ⟨g,(k+1) * 2,J⟩) (n+1-(k+1)) (cap-(k+1))) w at s2;change ∀ w,(O 26 (D (L ⟨g,0,J⟩) (n+1) cap) (L (X Y k)) J J).run K w=.ok (D (L ⟨g,k * 2,J⟩) (n+1-k) (cap-k)) w at s3;have e1:((k:Int) == (n:Int))=false:=by rw [beq_eq_false_iff_ne]; omega
 have e2:decide ((cap:Int)<(n:Int)+1)=false:=by simp; omega
 change (U #[26,26] 3 #[D (L ⟨g,(k+1) * 2,J⟩) (n+1-(k+1)) (cap-(k+1)),D (L ⟨g,k * 2,J⟩) (n+1-k) (cap-k)]).run K W.drew=.ok (X Y ((l.length-k:Nat):Int)) (W.drew.setRow g R1) at q1;change (U #[26,26] 3 #[D (L ⟨g,k * 2,J⟩) (n+1-k) (cap-k),D (L ⟨b,0,J⟩) 1 1]).run K (W.drew.setRow g R1)=.ok (X Y 1) ((W.drew.setRow g R1).setRow g R2) at q2;clear hn;go_enter aK,aG;go_wp2_with (first | (simp only [hov]) | fail);clear hov s0 s1 s2 s3;have hw1:IntKind.i64.wrap ((k:Int)+1)=(k:Int)+1:=by rw [aj]; omega
 have hb1:(0:Int)<=(k:Int)+1:=by omega
 have hb0:(k:Int)+1<=(n:Int)+1:=by omega
 have htn:((k:Int)+1).toNat=k+1:=by omega
 have hb2:¬ (cap=k+1):=by omega
 have hb3:(k:Int)<=(n:Int)+1:=by omega
 have hb4:¬ (cap=k):=by omega
 have h81:n+1-(k+1)=n-k:=by omega
 rw [h81] at q1;clear h81
 go_region_law (refine fB rfl (.tmp 73) (.tmp 76) 26 rfl (v:=D (L ⟨g,(k+1) * 2,J⟩) (n-k) (cap-(k+1))) (xv:=D (L ⟨g,k * 2,J⟩) (n+1-k) (cap-k)) (by simp [aB,aC]) (by simp [aB,aC]) q1 ?_)
 all_goals simp only [Exit.then]
 all_goals apply_assumption
 clear q1 hw1 hb1 hb0 htn hb2 hb3 hb4;have s3:=eD (E:=EJ) qI g k (n+1) cap (by omega) (by omega);change ∀ w,(O 26 (D (L ⟨g,0,J⟩) (n+1) cap) (L (X Y k)) J J).run K w=.ok (D (L ⟨g,k * 2,J⟩) (n+1-k) (cap-k)) w at s3;go_wp2_with (first | (at_builtin; refine wpList_copy_run rfl _ _ 26 rfl rfl rfl q2 ?_) | fail);go_ret;exact Q.out
theorem oN (B g n cap:Nat) (cur:Array aF) (l:List dI) (k:Nat) (c:dI) (b:Nat) (W:ay) (hn:n=l.length) (hg:dh W g cur 23) (hcm:cap<=aL) (hnc:n<=cap) (ht:cur.toList.take (n * 2)=flat EJ l) (hx:dh W b (gM c).toArray 23) (hk:k<n) (hroom:cap<n+1) (hl:n<=900) (hB:B<=W.heap.size) :
  aJ K 36 #[D (L ⟨g,0,J⟩) n cap,X Y k,D (L ⟨b,0,J⟩) 1 1] W (mo B l k c (D (L ⟨g,0,J⟩) n cap) W):=by
 have hgw:=hg.lt;have hbw:=hx.lt;obtain⟨G,R1,R2,R3,hG1,hG2,r1,r2,r3,ow⟩:=lG (E:=EJ) (l:=l) (k:=k) (cap:=cap) (cur:=cur) (cs:=(gM c).toArray) (c:=c) qI 3 aI (by omega) (by omega) (by omega) (by omega) (by rw [<- hn]; exact ht) W g b hg hbw;unfold aL at hcm hG2;have s0:=eD (E:=EJ) qI g k n cap (by omega) (by omega);have s1:=iC (E:=EJ) qI ⟨g,0,J⟩ k n cap (by omega);have s2:=eD (E:=EJ) qI W.heap.size k (n+1) G (by omega) (by omega);have s3:=eD (E:=EJ) qI W.heap.size (k+1) (n+1) G (by omega) (by omega);have a1:=r1 26;have n1:=dB W.drew R1 23;have bl:W.drew.heap.size=W.heap.size:=rfl;rw [bl] at n1;have g1:dh (W.drew.alloc (V R1 23)) g cur 23:=dh.more (show dh W.drew g cur 23 from hg) _;have x1:dh (W.drew.alloc (V R1 23)) b (gM c).toArray 23:=dh.more (show dh W.drew b _ 23 from hx) _;have q2:=r2 (W.drew.alloc (V R1 23)) 3 (n+1-k) (G-k) n1 x1 rfl (by omega);have q3:=r3 ((W.drew.alloc (V R1 23)).setRow W.heap.size R2).drew 3 (n+1-(k+1)) (G-(k+1)) (n-k) (cap-k) (dh.set n1 R2) (dh.other g1 (by omega) R2) (by omega);have Q:=Lib.hid (show mo B l k c (D (L ⟨g,0,J⟩) n cap) W (Z (D (L ⟨W.heap.size,0,J⟩) (n+1) G)) (((W.drew.alloc (V R1 23)).setRow W.heap.size R2).drew.setRow W.heap.size R3) from ⟨_,rfl,by rw [hn]; exact ow _ B hB (dh.set (dh.set n1 R2) R3),below_setRow (below_setRow ((aA B W).drew.alloc hB _) hB _).drew hB _,fun j hj _=>(setRow_other _ W.heap.size j _ (by omega)).trans ((setRow_other _ W.heap.size j _ (by omega)).trans (Array.getElem?_push_lt hj |>.trans (Array.getElem?_eq_getElem hj).symm))⟩);have l1:l.length+1=n+1:=by rw [hn]
 rw [l1,<- hn] at a1;clear r1 r2 r3 ow hg ht hx g1 x1 n1 bl l1;change ∀ w,(O 26 (D (L ⟨g,0,J⟩) n cap) (L (X Y k)) J J).run K w=.ok (D (L ⟨g,k * 2,J⟩) (n-k) (cap-k)) w at s0;change ∀ w,(O 26 (D (L ⟨g,0,J⟩) n cap) J (L (X Y k)) J).run K w=.ok (D (L ⟨g,0,J⟩) k cap) w at s1;change ∀ w,(O 26 (D (L ⟨W.heap.size,0,J⟩) (n+1) G) (L (X Y k)) J J).run K w=.ok (D (L ⟨W.heap.size,k * 2,J⟩) (n+1-k) (G-k)) w at s2;change ∀ w,(O 26 (D (L ⟨W.heap.size,0,J⟩) (n+1) G) (L (X Y ((k:Int)+1))) J J).run K w=.ok (D (L ⟨W.heap.size,(k+1) * 2,J⟩) (n+1-(k+1)) (G-(k+1))) w at s3;change (au #[26,3] 26 #[D (L ⟨g,0,J⟩) k cap,X Y ((n:Int)+1-k)]).run K W=.ok (D (L ⟨W.heap.size,0,J⟩) (n+1) G) (W.drew.alloc (V R1 23)) at a1;change (U #[26,26] 3 #[D (L ⟨W.heap.size,k * 2,J⟩) (n+1-k) (G-k),D (L ⟨b,0,J⟩) 1 1]).run K (W.drew.alloc (V R1 23))=.ok (X Y 1) ((W.drew.alloc (V R1 23)).setRow W.heap.size R2) at q2;change (U #[26,26] 3 #[D (L ⟨W.heap.size,(k+1) * 2,J⟩) (n+1-(k+1)) (G-(k+1)),D (L ⟨g,k * 2,J⟩) (n-k) (cap-k)]).run K ((W.drew.alloc (V R1 23)).setRow W.heap.size R2).drew=.ok (X Y ((l.length-k:Nat):Int)) (((W.drew.alloc (V R1 23)).setRow W.heap.size R2).drew.setRow W.heap.size R3) at q3;have e1:((k:Int) == (n:Int))=false:=by rw [beq_eq_false_iff_ne]; omega
 have e2:decide ((cap:Int)<(n:Int)+1)=true:=by simp; omega
 have hGn:n+1<=G:=by omega
 clear hn;generalize W.heap.size=N at *;generalize W.drew.alloc (V R1 23)=W1 at *;generalize W1.setRow N R2=W2 at *;go_enter aK,aG;go_wp2_with (first | (at_builtin; refine fU rfl _ _ 26 3 rfl rfl rfl a1 ?_) | (at_builtin; refine wpList_copy_run rfl _ _ 26 rfl rfl rfl q2 ?_) | fail);clear a1 q2 s0 s1 s2 s3;have hw1:IntKind.i64.wrap ((k:Int)+1)=(k:Int)+1:=by rw [aj]; omega
 have hb1:(0:Int)<=(k:Int)+1:=by omega
 have hb0:(k:Int)+1<=(n:Int)+1:=by omega
 have htn:((k:Int)+1).toNat=k+1:=by omega
 have hb2:¬ (G=k+1):=by omega
 have hb3:(k:Int)<=(n:Int):=by omega
 have hb4:¬ (cap=k):=by omega
 have h81:n+1-(k+1)=n-k:=by omega
 rw [h81] at q3;clear h81
 go_region_law (refine fB rfl (.tmp 50) (.tmp 53) 26 rfl (v:=D (L ⟨N,(k+1) * 2,J⟩) (n-k) (G-(k+1))) (xv:=D (L ⟨g,k * 2,J⟩) (n-k) (cap-k)) (by simp [aB,aC]) (by simp [aB,aC]) q3 ?_)
 all_goals simp only [Exit.then]
 all_goals apply_assumption
 go_wp2;go_ret;exact Q.out
theorem qm (B:Nat) (v:aF) (l:List dI) (k:Nat) (c:dI) (b:Nat) (W:ay) (ho:pG W B v l) (hx:dh W b (gM c).toArray 23) (hne:v.ownBlock≠L b) (hk:k<=l.length) (hl:l.length<=900) (hB:B<=W.heap.size) :
  aJ K 36 #[v,X Y k,D (L ⟨b,0,J⟩) 1 1] W (mo B l k c v W):=by
 rcases aD k l.length with h|h
 ·rcases eH ho with⟨_,h2⟩|⟨g,cap,cur,rfl,h1,h2,h3,h4,h5,h6⟩
  ·rw [h2] at h; simp at h
  ·rcases aD cap (l.length+1) with h7|h7
   ·exact oN B g _ cap cur l k c b W rfl h2 h4 h3 h6 hx h h7 hl hB
   ·exact ng B g _ cap cur l k c b W rfl h1 h2 h4 h5 h6 hx (fun e=>hne (by simp [aM,e])) h h7 hl
 ·obtain rfl:k=l.length:=by omega
  exact ql B v l c b W ho hx hl hB
theorem xY {W:ay} {b:Nat} {c:gD} (h:dh W b (cellsD c).toArray 36):qQ W (D (L ⟨b,0,J⟩) 1 1) [c] :=
 Or.inr ⟨⟨b,0,J⟩,1,rfl,by simp,by decide,jL h (by simp [ED])⟩
def mq (B:Nat) (l:List gD) (k:Nat) (c:gD) (vv:aF) (W:ay) (e:Ending) (w':ay):Prop:=∃ v',e=Z v'/\jD w' B v' (l.take k++c::l.drop k)/\Below B W w'/\(∀ j,j<W.heap.size->L j≠vv.ownBlock->w'.heap[j]?=W.heap[j]?)
theorem qo (B:Nat) (v:aF) (l:List gD) (c:gD) (b:Nat) (W:ay) (ho:jD W B v l) (hx:dh W b (cellsD c).toArray 36) (hl:l.length<=900) (hB:B<=W.heap.size) :
  aJ K 34 #[v,X Y (l.length:Nat),D (L ⟨b,0,J⟩) 1 1] W (mq B l l.length c v W):=by
 obtain⟨v',w',hr,ho2,hg⟩:=iq okD B ho (xY hx) (by omega) (by simp) hB 25;have hr:(au #[25,25] 25 #[v,D (L ⟨b,0,J⟩) 1 1]).run K W=.ok v' w':=hr;have Q:=Lib.hid (show mq B l l.length c v W (Z v') w' from ⟨v',rfl,by rw [List.take_of_length_le (ak _),List.drop_of_length_le (ak _)]; exact ho2,(aA B W).grown hg hB (fun j hj=>(ho.lt j hj).1),fun j hj hne=>hg.block j hj hne⟩);obtain⟨sx,hs,_⟩:=qM okD (Row.dw ho) l.length (ak _);have hs:∀ w,(O 25 v (L (X Y l.length)) J J).run K w=.ok sx w:=hs;obtain⟨ao,ac,rfl⟩:=(Row.dw ho).len;clear ho ho2 hg;generalize hn:l.length=n at *;clear hn;go_enter aN,aH;go_wp2_with (first | (at_builtin; refine wpList_append_run rfl _ _ 25 rfl rfl rfl hr ?_) | fail);go_ret;exact Q.out
theorem xZ (w:ay) (g b k la lb cb:Nat) (cur cs:Array aF) (hb:dh w b cs 36) (hg:dh w g cur 36) (hne:b≠g) (h0:0<cur.size):(callFunc 52 #[D (L ⟨b,0,J⟩) la 1,D (L ⟨g,k,J⟩) lb cb]).run K w=.ok (.value (.bool false)) w:=by
 rw [run_callFunc_extern Try.func52 (by kernel_rfl) (by kernel_rfl) (by kernel_rfl) (e:=ah #[25,25] #[4]) (by kernel_rfl),
  Lib.run_overlaps_apart w 25 4 36 Try.underlying25 4 Try.sizeOf36 ⟨b,0,J⟩ ⟨g,k,J⟩ la 1 lb cb hne 36 36 cs.size cur.size hb.shape hg.shape (by omega) (hb.fr 0) (hb.fr _)]
 rfl
theorem ni (B g n cap:Nat) (cur:Array aF) (l:List gD) (k:Nat) (c:gD) (b:Nat) (W:ay) (hn:n=l.length) (hBg:B<=g) (hg:dh W g cur 36) (hcm:cap<=aL) (hsz:cur.size=cap * 4) (ht:cur.toList.take (n * 4)=flat ED l) (hx:dh W b (cellsD c).toArray 36) (hne:b≠g) (hk:k<n) (hroom:n+1<=cap) (hl:n<=900) :
  aJ K 34 #[D (L ⟨g,0,J⟩) n cap,X Y k,D (L ⟨b,0,J⟩) 1 1] W (mq B l k c (D (L ⟨g,0,J⟩) n cap) W):=by
 obtain⟨R1,R2,r1,r2,ow⟩:=kg (E:=ED) (l:=l) (k:=k) (cap:=cap) (cur:=cur) (cs:=(cellsD c).toArray) (c:=c) okD (by omega) (by omega) hsz (by rw [<- hn]; exact ht) g b hne;have hov:=fun lb cb=>xZ W g b ((k+1) * 4) 1 lb cb cur (cellsD c).toArray hx hg hne (by omega);have s0:=eD (E:=ED) okD g k n cap (by omega) (by omega);have s1:=iC (E:=ED) okD ⟨g,0,J⟩ (n+1) n cap (by omega);have s2:=eD (E:=ED) okD g (k+1) (n+1) cap (by omega) (by omega);have s3:=eD (E:=ED) okD g k (n+1) cap (by omega) (by omega);have q1:=r1 W.drew 3 (n+1-(k+1)) (cap-(k+1)) (n+1-k) (cap-k) hg (by omega);have q2:=r2 (W.drew.setRow g R1) 3 (n+1-k) (cap-k) (dh.set (show dh W.drew g cur 36 from hg) R1) (dh.other (show dh W.drew b _ 36 from hx) hne R1) rfl (by omega);have Q:=Lib.hid (show mq B l k c (D (L ⟨g,0,J⟩) n cap) W (Z (D (L ⟨g,0,J⟩) (n+1) cap)) ((W.drew.setRow g R1).setRow g R2) from ⟨_,rfl,by rw [hn]; exact ow _ B hBg hcm (dh.set (dh.set (show dh W.drew g cur 36 from hg) R1) R2),below_setRow (below_setRow (aA B W).drew hBg _) hBg _,fun j hj hne=>(setRow_other _ g j _ (fun e=>hne (by rw [e]; rfl))).trans (setRow_other _ g j _ (fun e=>hne (by rw [e]; rfl)))⟩);clear r1 r2 ow hg ht hx hsz hBg hcm;change ∀ w,(O 25 (D (L ⟨g,0,J⟩) n cap) (L (X Y k)) J J).run K w=.ok (D (L ⟨g,k * 4,J⟩) (n-k) (cap-k)) w at s0;change ∀ w,(O 25 (D (L ⟨g,0,J⟩) n cap) J (L (X Y ((n:Int)+1))) J).run K w=.ok (D (L ⟨g,0,J⟩) (n+1) cap) w at s1;change ∀ w,(O 25 (D (L ⟨g,0,J⟩) (n+1) cap) (L (X Y ((k:Int)+1))) J J).run K w=.ok (D (L ⟨g,(k+1) * 4,J⟩) (n+1-(k+1)) (cap-(k+1))) w at s2;change ∀ w,(O 25 (D (L ⟨g,0,J⟩) (n+1) cap) (L (X Y k)) J J).run K w=.ok (D (L ⟨g,k * 4,J⟩) (n+1-k) (cap-k)) w at s3;have e1:((k:Int) == (n:Int))=false:=by rw [beq_eq_false_iff_ne]; omega
 have e2:decide ((cap:Int)<(n:Int)+1)=false:=by simp; omega
 change (U #[25,25] 3 #[D (L ⟨g,(k+1) * 4,J⟩) (n+1-(k+1)) (cap-(k+1)),D (L ⟨g,k * 4,J⟩) (n+1-k) (cap-k)]).run K W.drew=.ok (X Y ((l.length-k:Nat):Int)) (W.drew.setRow g R1) at q1;change (U #[25,25] 3 #[D (L ⟨g,k * 4,J⟩) (n+1-k) (cap-k),D (L ⟨b,0,J⟩) 1 1]).run K (W.drew.setRow g R1)=.ok (X Y 1) ((W.drew.setRow g R1).setRow g R2) at q2;clear hn;go_enter aN,aH;go_wp2_with (first | (simp only [hov]) | fail);clear hov s0 s1 s2 s3;have hw1:IntKind.i64.wrap ((k:Int)+1)=(k:Int)+1:=by rw [aj]; omega
 have hb1:(0:Int)<=(k:Int)+1:=by omega
 have hb0:(k:Int)+1<=(n:Int)+1:=by omega
 have htn:((k:Int)+1).toNat=k+1:=by omega
 have hb2:¬ (cap=k+1):=by omega
 have hb3:(k:Int)<=(n:Int)+1:=by omega
 have hb4:¬ (cap=k):=by omega
 have h81:n+1-(k+1)=n-k:=by omega
 rw [h81] at q1;clear h81
 go_region_law (refine fB rfl (.tmp 73) (.tmp 76) 25 rfl (v:=D (L ⟨g,(k+1) * 4,J⟩) (n-k) (cap-(k+1))) (xv:=D (L ⟨g,k * 4,J⟩) (n+1-k) (cap-k)) (by simp [aB,aC]) (by simp [aB,aC]) q1 ?_)
 all_goals simp only [Exit.then]
 all_goals apply_assumption
 clear q1 hw1 hb1 hb0 htn hb2 hb3 hb4;have s3:=eD (E:=ED) okD g k (n+1) cap (by omega) (by omega);change ∀ w,(O 25 (D (L ⟨g,0,J⟩) (n+1) cap) (L (X Y k)) J J).run K w=.ok (D (L ⟨g,k * 4,J⟩) (n+1-k) (cap-k)) w at s3;go_wp2_with (first | (at_builtin; refine wpList_copy_run rfl _ _ 25 rfl rfl rfl q2 ?_) | fail);go_ret;exact Q.out
theorem oO (B g n cap:Nat) (cur:Array aF) (l:List gD) (k:Nat) (c:gD) (b:Nat) (W:ay) (hn:n=l.length) (hg:dh W g cur 36) (hcm:cap<=aL) (hnc:n<=cap) (ht:cur.toList.take (n * 4)=flat ED l) (hx:dh W b (cellsD c).toArray 36) (hk:k<n) (hroom:cap<n+1) (hl:n<=900) (hB:B<=W.heap.size) :
  aJ K 34 #[D (L ⟨g,0,J⟩) n cap,X Y k,D (L ⟨b,0,J⟩) 1 1] W (mq B l k c (D (L ⟨g,0,J⟩) n cap) W):=by
 have hgw:=hg.lt;have hbw:=hx.lt;obtain⟨G,R1,R2,R3,hG1,hG2,r1,r2,r3,ow⟩:=lG (E:=ED) (l:=l) (k:=k) (cap:=cap) (cur:=cur) (cs:=(cellsD c).toArray) (c:=c) okD 3 aI (by omega) (by omega) (by omega) (by omega) (by rw [<- hn]; exact ht) W g b hg hbw;unfold aL at hcm hG2;have s0:=eD (E:=ED) okD g k n cap (by omega) (by omega);have s1:=iC (E:=ED) okD ⟨g,0,J⟩ k n cap (by omega);have s2:=eD (E:=ED) okD W.heap.size k (n+1) G (by omega) (by omega);have s3:=eD (E:=ED) okD W.heap.size (k+1) (n+1) G (by omega) (by omega);have a1:=r1 25;have n1:=dB W.drew R1 36;have bl:W.drew.heap.size=W.heap.size:=rfl;rw [bl] at n1;have g1:dh (W.drew.alloc (V R1 36)) g cur 36:=dh.more (show dh W.drew g cur 36 from hg) _;have x1:dh (W.drew.alloc (V R1 36)) b (cellsD c).toArray 36:=dh.more (show dh W.drew b _ 36 from hx) _;have q2:=r2 (W.drew.alloc (V R1 36)) 3 (n+1-k) (G-k) n1 x1 rfl (by omega);have q3:=r3 ((W.drew.alloc (V R1 36)).setRow W.heap.size R2).drew 3 (n+1-(k+1)) (G-(k+1)) (n-k) (cap-k) (dh.set n1 R2) (dh.other g1 (by omega) R2) (by omega);have Q:=Lib.hid (show mq B l k c (D (L ⟨g,0,J⟩) n cap) W (Z (D (L ⟨W.heap.size,0,J⟩) (n+1) G)) (((W.drew.alloc (V R1 36)).setRow W.heap.size R2).drew.setRow W.heap.size R3) from ⟨_,rfl,by rw [hn]; exact ow _ B hB (dh.set (dh.set n1 R2) R3),below_setRow (below_setRow ((aA B W).drew.alloc hB _) hB _).drew hB _,fun j hj _=>(setRow_other _ W.heap.size j _ (by omega)).trans ((setRow_other _ W.heap.size j _ (by omega)).trans (Array.getElem?_push_lt hj |>.trans (Array.getElem?_eq_getElem hj).symm))⟩);have l1:l.length+1=n+1:=by rw [hn]
 rw [l1,<- hn] at a1;clear r1 r2 r3 ow hg ht hx g1 x1 n1 bl l1;change ∀ w,(O 25 (D (L ⟨g,0,J⟩) n cap) (L (X Y k)) J J).run K w=.ok (D (L ⟨g,k * 4,J⟩) (n-k) (cap-k)) w at s0;change ∀ w,(O 25 (D (L ⟨g,0,J⟩) n cap) J (L (X Y k)) J).run K w=.ok (D (L ⟨g,0,J⟩) k cap) w at s1;change ∀ w,(O 25 (D (L ⟨W.heap.size,0,J⟩) (n+1) G) (L (X Y k)) J J).run K w=.ok (D (L ⟨W.heap.size,k * 4,J⟩) (n+1-k) (G-k)) w at s2;change ∀ w,(O 25 (D (L ⟨W.heap.size,0,J⟩) (n+1) G) (L (X Y ((k:Int)+1))) J J).run K w=.ok (D (L ⟨W.heap.size,(k+1) * 4,J⟩) (n+1-(k+1)) (G-(k+1))) w at s3;change (au #[25,3] 25 #[D (L ⟨g,0,J⟩) k cap,X Y ((n:Int)+1-k)]).run K W=.ok (D (L ⟨W.heap.size,0,J⟩) (n+1) G) (W.drew.alloc (V R1 36)) at a1;change (U #[25,25] 3 #[D (L ⟨W.heap.size,k * 4,J⟩) (n+1-k) (G-k),D (L ⟨b,0,J⟩) 1 1]).run K (W.drew.alloc (V R1 36))=.ok (X Y 1) ((W.drew.alloc (V R1 36)).setRow W.heap.size R2) at q2;change (U #[25,25] 3 #[D (L ⟨W.heap.size,(k+1) * 4,J⟩) (n+1-(k+1)) (G-(k+1)),D (L ⟨g,k * 4,J⟩) (n-k) (cap-k)]).run K ((W.drew.alloc (V R1 36)).setRow W.heap.size R2).drew=.ok (X Y ((l.length-k:Nat):Int)) (((W.drew.alloc (V R1 36)).setRow W.heap.size R2).drew.setRow W.heap.size R3) at q3;have e1:((k:Int) == (n:Int))=false:=by rw [beq_eq_false_iff_ne]; omega
 have e2:decide ((cap:Int)<(n:Int)+1)=true:=by simp; omega
 have hGn:n+1<=G:=by omega
 clear hn;generalize W.heap.size=N at *;generalize W.drew.alloc (V R1 36)=W1 at *;generalize W1.setRow N R2=W2 at *;go_enter aN,aH;go_wp2_with (first | (at_builtin; refine fU rfl _ _ 25 3 rfl rfl rfl a1 ?_) | (at_builtin; refine wpList_copy_run rfl _ _ 25 rfl rfl rfl q2 ?_) | fail);clear a1 q2 s0 s1 s2 s3;have hw1:IntKind.i64.wrap ((k:Int)+1)=(k:Int)+1:=by rw [aj]; omega
 have hb1:(0:Int)<=(k:Int)+1:=by omega
 have hb0:(k:Int)+1<=(n:Int)+1:=by omega
 have htn:((k:Int)+1).toNat=k+1:=by omega
 have hb2:¬ (G=k+1):=by omega
 have hb3:(k:Int)<=(n:Int):=by omega
 have hb4:¬ (cap=k):=by omega
 have h81:n+1-(k+1)=n-k:=by omega
 rw [h81] at q3;clear h81
 go_region_law (refine fB rfl (.tmp 50) (.tmp 53) 25 rfl (v:=D (L ⟨N,(k+1) * 4,J⟩) (n-k) (G-(k+1))) (xv:=D (L ⟨g,k * 4,J⟩) (n-k) (cap-k)) (by simp [aB,aC]) (by simp [aB,aC]) q3 ?_)
 all_goals simp only [Exit.then]
 all_goals apply_assumption
 go_wp2;go_ret;exact Q.out
theorem qp (B:Nat) (v:aF) (l:List gD) (k:Nat) (c:gD) (b:Nat) (W:ay) (ho:jD W B v l) (hx:dh W b (cellsD c).toArray 36) (hne:v.ownBlock≠L b) (hk:k<=l.length) (hl:l.length<=900) (hB:B<=W.heap.size) :
  aJ K 34 #[v,X Y k,D (L ⟨b,0,J⟩) 1 1] W (mq B l k c v W):=by
 rcases aD k l.length with h|h
 ·rcases eH ho with⟨_,h2⟩|⟨g,cap,cur,rfl,h1,h2,h3,h4,h5,h6⟩
  ·rw [h2] at h; simp at h
  ·rcases aD cap (l.length+1) with h7|h7
   ·exact oO B g _ cap cur l k c b W rfl h2 h4 h3 h6 hx h h7 hl hB
   ·exact ni B g _ cap cur l k c b W rfl h1 h2 h4 h5 h6 hx (fun e=>hne (by simp [aM,e])) h h7 hl
 ·obtain rfl:k=l.length:=by omega
  exact qo B v l c b W ho hx hl hB
end Go.Proofs.Ytkcfgbddlpomgaa.Av
