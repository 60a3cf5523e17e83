/-
  slices.Insert of one. Conditions as told.
-/
import Derived.Test.YtkcfgbddlpomgaaGreatCQ007
set_option maxRecDepth 100000
set_option maxHeartbeats 64000000
open Go.Builtin renaming copy_->U,append_->ak
open Go.Instr renaming sliceAt->O
open Go.IntKind renaming i64->Y,wrap_i64->ah
open Go.Obj renaming cells->V
open Go.Proofs.Tryz renaming prog->J,ntmps99->Z,func99->aj
open Go.Value renaming slice->D,int->X
open _root_.Option renaming none->K,some->L
namespace Go.Proofs.YtkcfgbddlpomgaaGreat.Av
open Go.RowKit Rw YtkcfgbddlpomgaaGreat.Nm Pr Bk
theorem Sd {W:World} {b:Nat} {c:jv} (h:dG W b (cellsD c).toArray 53):uH W (D (L ⟨b,0,K⟩) 1 1) [c] :=
 Or.inr ⟨⟨b,0,K⟩,1,rfl,by simp,by decide,uE h (by simp [ED])⟩
def zu (B:Nat) (l:List jv) (k:Nat) (c:jv) (vv:Value) (W:World) (e:Ending) (w':World):Prop:=∃ v',e=.returned v'/\kR w' B v' (l.take k++c::l.drop k)/\Below B W w'/\(∀ j,j<W.heap.size->L j≠vv.ownBlock->w'.heap[j]?=W.heap[j]?)
theorem GK (B:Nat) (v:Value) (l:List jv) (c:jv) (b:Nat) (W:World) (ho:kR W B v l) (hx:dG W b (cellsD c).toArray 53) (hl:l.length<=900) (hB:B<=W.heap.size) :
  Calls J 99 #[v,X Y (l.length:Nat),D (L ⟨b,0,K⟩) 1 1] W (zu B l l.length c v W):=by
 obtain⟨v',w',hr,ho2,hg⟩:=fO okD B ho (Sd hx) (by omega) (by simp) hB 28;have hr:(ak #[28,28] 28 #[v,D (L ⟨b,0,K⟩) 1 1]).run J W=.ok v' w':=hr;have Q:=Lib.hid (show zu B l l.length c v W (.returned v') w' from ⟨v',rfl,by rw [List.take_of_length_le (Nat.le_refl _),List.drop_of_length_le (Nat.le_refl _)]; exact ho2,(Below.refl B W).grown hg hB (fun j hj=>(ho.lt j hj).1),fun j hj hne=>hg.block j hj hne⟩);obtain⟨sx,hs,_⟩:=oN okD (Row.dn ho) l.length (Nat.le_refl _);have hs:∀ w,(O 28 v (L (X Y l.length)) K K).run J w=.ok sx w:=hs;obtain⟨ao,ac,rfl⟩:=(Row.dn ho).len;clear ho ho2 hg;generalize hn:l.length=n at *;clear hn;go_enter aj,Z;go_wp2_with (first | (at_builtin; refine wpList_append_run rfl _ _ 28 rfl rfl rfl hr ?_) | fail);go_ret;exact Q.out
theorem Sg (w:World) (g b k la lb cb:Nat) (cur cs:Array Value) (hb:dG w b cs 53) (hg:dG w g cur 53) (hne:b≠g) (h0:0<cur.size):(callFunc 112 #[D (L ⟨b,0,K⟩) la 1,D (L ⟨g,k,K⟩) lb cb]).run J w=.ok (.value (.bool false)) w:=by
 rw [run_callFunc_extern Tryz.func112 (by kernel_rfl) (by kernel_rfl) (by kernel_rfl) (e:=Extern.SlicesOverlaps.overlaps #[28,28] #[4]) (by kernel_rfl),
  Lib.run_overlaps_apart w 28 4 53 Tryz.underlying28 4 Tryz.sizeOf53 ⟨b,0,K⟩ ⟨g,k,K⟩ la 1 lb cb hne 53 53 cs.size cur.size hb.shape hg.shape (by omega) (hb.fr 0) (hb.fr _)]
 rfl
theorem A8 (B g n cap:Nat) (cur:Array Value) (l:List jv) (k:Nat) (c:jv) (b:Nat) (W:World) (hn:n=l.length) (hBg:B<=g) (hg:dG W g cur 53) (hcm:cap<=maxLen) (hsz:cur.size=cap * 4) (ht:cur.toList.take (n * 4)=flat ED l) (hx:dG W b (cellsD c).toArray 53) (hne:b≠g) (hk:k<n) (hroom:n+1<=cap) (hl:n<=900) :
  Calls J 99 #[D (L ⟨g,0,K⟩) n cap,X Y k,D (L ⟨b,0,K⟩) 1 1] W (zu B l k c (D (L ⟨g,0,K⟩) n cap) W):=by
 obtain⟨R1,R2,r1,r2,ow⟩:=vQ (E:=ED) (l:=l) (k:=k) (cap:=cap) (cur:=cur) (cs:=(cellsD c).toArray) (c:=c) okD (by omega) (by omega) hsz (by rw [<- hn]; exact ht) g b hne;have hov:=fun lb cb=>Sg W g b ((k+1) * 4) 1 lb cb cur (cellsD c).toArray hx hg hne (by omega);have s0:=jc (E:=ED) okD g k n cap (by omega) (by omega);have s1:=nN (E:=ED) okD ⟨g,0,K⟩ (n+1) n cap (by omega);have s2:=jc (E:=ED) okD g (k+1) (n+1) cap (by omega) (by omega);have s3:=jc (E:=ED) okD g k (n+1) cap (by omega) (by omega);have q1:=r1 W.drew 3 (n+1-(k+1)) (cap-(k+1)) (n+1-k) (cap-k) hg (by omega);have q2:=r2 (W.drew.setRow g R1) 3 (n+1-k) (cap-k) (dG.set (show dG W.drew g cur 53 from hg) R1) (dG.other (show dG W.drew b _ 53 from hx) hne R1) rfl (by omega);have Q:=Lib.hid (show zu B l k c (D (L ⟨g,0,K⟩) n cap) W (.returned (D (L ⟨g,0,K⟩) (n+1) cap)) ((W.drew.setRow g R1).setRow g R2) from ⟨_,rfl,by rw [hn]; exact ow _ B hBg hcm (dG.set (dG.set (show dG W.drew g cur 53 from hg) R1) R2),below_setRow (below_setRow (Below.refl B W).drew hBg _) hBg _,fun j hj hne=>(setRow_other _ g j _ (fun e=>hne (by rw [e]; rfl))).trans (setRow_other _ g j _ (fun e=>hne (by rw [e]; rfl)))⟩);clear r1 r2 ow hg ht hx hsz hBg hcm;change ∀ w,(O 28 (D (L ⟨g,0,K⟩) n cap) (L (X Y k)) K K).run J w=.ok (D (L ⟨g,k * 4,K⟩) (n-k) (cap-k)) w at s0;change ∀ w,(O 28 (D (L ⟨g,0,K⟩) n cap) K (L (X Y ((n:Int)+1))) K).run J w=.ok (D (L ⟨g,0,K⟩) (n+1) cap) w at s1;change ∀ w,(O 28 (D (L ⟨g,0,K⟩) (n+1) cap) (L (X Y ((k:Int)+1))) K K).run J w=.ok (D (L ⟨g,(k+1) * 4,K⟩) (n+1-(k+1)) (cap-(k+1))) w at s2;change ∀ w,(O 28 (D (L ⟨g,0,K⟩) (n+1) cap) (L (X Y k)) K K).run J w=.ok (D (L ⟨g,k * 4,K⟩) (n+1-k) (cap-k)) w at s3;have e1:((k:Int) == (n:Int))=false:=by rw [beq_eq_false_iff_ne]; omega
 have e2:decide ((cap:Int)<(n:Int)+1)=false:=by simp; omega
 change (U #[28,28] 3 #[D (L ⟨g,(k+1) * 4,K⟩) (n+1-(k+1)) (cap-(k+1)),D (L ⟨g,k * 4,K⟩) (n+1-k) (cap-k)]).run J W.drew=.ok (X Y ((l.length-k:Nat):Int)) (W.drew.setRow g R1) at q1;change (U #[28,28] 3 #[D (L ⟨g,k * 4,K⟩) (n+1-k) (cap-k),D (L ⟨b,0,K⟩) 1 1]).run J (W.drew.setRow g R1)=.ok (X Y 1) ((W.drew.setRow g R1).setRow g R2) at q2;clear hn;go_enter aj,Z;go_wp2_with (first | (simp only [hov]) | fail);clear hov s0 s1 s2 s3;have hw1:IntKind.i64.wrap ((k:Int)+1)=(k:Int)+1:=by rw [ah]; omega
 have hb1:(0:Int)<=(k:Int)+1:=by omega
 have hb0:(k:Int)+1<=(n:Int)+1:=by omega
 have htn:((k:Int)+1).toNat=k+1:=by omega
 have hb2:¬ (cap=k+1):=by omega
 have hb3:(k:Int)<=(n:Int)+1:=by omega
 have hb4:¬ (cap=k):=by omega
 have h81:n+1-(k+1)=n-k:=by omega
 rw [h81] at q1;clear h81
 go_region_law (refine jK rfl (.tmp 73) (.tmp 76) 28 rfl (v:=D (L ⟨g,(k+1) * 4,K⟩) (n-k) (cap-(k+1))) (xv:=D (L ⟨g,k * 4,K⟩) (n+1-k) (cap-k)) (by simp [Act.eval,Act.put]) (by simp [Act.eval,Act.put]) q1 ?_)
 all_goals simp only [Exit.then]
 all_goals apply_assumption
 clear q1 hw1 hb1 hb0 htn hb2 hb3 hb4;have s3:=jc (E:=ED) okD g k (n+1) cap (by omega) (by omega);change ∀ w,(O 28 (D (L ⟨g,0,K⟩) (n+1) cap) (L (X Y k)) K K).run J w=.ok (D (L ⟨g,k * 4,K⟩) (n+1-k) (cap-k)) w at s3;go_wp2_with (first | (at_builtin; refine wpList_copy_run rfl _ _ 28 rfl rfl rfl q2 ?_) | fail);go_ret;exact Q.out
theorem Eh (B g n cap:Nat) (cur:Array Value) (l:List jv) (k:Nat) (c:jv) (b:Nat) (W:World) (hn:n=l.length) (hg:dG W g cur 53) (hcm:cap<=maxLen) (hnc:n<=cap) (ht:cur.toList.take (n * 4)=flat ED l) (hx:dG W b (cellsD c).toArray 53) (hk:k<n) (hroom:cap<n+1) (hl:n<=900) (hB:B<=W.heap.size) :
  Calls J 99 #[D (L ⟨g,0,K⟩) n cap,X Y k,D (L ⟨b,0,K⟩) 1 1] W (zu B l k c (D (L ⟨g,0,K⟩) n cap) W):=by
 have hgw:=hg.lt;have hbw:=hx.lt;obtain⟨G,R1,R2,R3,hG1,hG2,r1,r2,r3,ow⟩:=yE (E:=ED) (l:=l) (k:=k) (cap:=cap) (cur:=cur) (cs:=(cellsD c).toArray) (c:=c) okD 3 Tryz.underlying3 (by omega) (by omega) (by omega) (by omega) (by rw [<- hn]; exact ht) W g b hg hbw;unfold maxLen at hcm hG2;have s0:=jc (E:=ED) okD g k n cap (by omega) (by omega);have s1:=nN (E:=ED) okD ⟨g,0,K⟩ k n cap (by omega);have s2:=jc (E:=ED) okD W.heap.size k (n+1) G (by omega) (by omega);have s3:=jc (E:=ED) okD W.heap.size (k+1) (n+1) G (by omega) (by omega);have a1:=r1 28;have n1:=dI W.drew R1 53;have bl:W.drew.heap.size=W.heap.size:=rfl;rw [bl] at n1;have g1:dG (W.drew.alloc (V R1 53)) g cur 53:=dG.more (show dG W.drew g cur 53 from hg) _;have x1:dG (W.drew.alloc (V R1 53)) b (cellsD c).toArray 53:=dG.more (show dG W.drew b _ 53 from hx) _;have q2:=r2 (W.drew.alloc (V R1 53)) 3 (n+1-k) (G-k) n1 x1 rfl (by omega);have q3:=r3 ((W.drew.alloc (V R1 53)).setRow W.heap.size R2).drew 3 (n+1-(k+1)) (G-(k+1)) (n-k) (cap-k) (dG.set n1 R2) (dG.other g1 (by omega) R2) (by omega);have Q:=Lib.hid (show zu B l k c (D (L ⟨g,0,K⟩) n cap) W (.returned (D (L ⟨W.heap.size,0,K⟩) (n+1) G)) (((W.drew.alloc (V R1 53)).setRow W.heap.size R2).drew.setRow W.heap.size R3) from ⟨_,rfl,by rw [hn]; exact ow _ B hB (dG.set (dG.set n1 R2) R3),below_setRow (below_setRow ((Below.refl B W).drew.alloc hB _) hB _).drew hB _,fun j hj _=>(setRow_other _ W.heap.size j _ (by omega)).trans ((setRow_other _ W.heap.size j _ (by omega)).trans (Array.getElem?_push_lt hj |>.trans (Array.getElem?_eq_getElem hj).symm))⟩);have l1:l.length+1=n+1:=by rw [hn]
 rw [l1,<- hn] at a1;clear r1 r2 r3 ow hg ht hx g1 x1 n1 bl l1;change ∀ w,(O 28 (D (L ⟨g,0,K⟩) n cap) (L (X Y k)) K K).run J w=.ok (D (L ⟨g,k * 4,K⟩) (n-k) (cap-k)) w at s0;change ∀ w,(O 28 (D (L ⟨g,0,K⟩) n cap) K (L (X Y k)) K).run J w=.ok (D (L ⟨g,0,K⟩) k cap) w at s1;change ∀ w,(O 28 (D (L ⟨W.heap.size,0,K⟩) (n+1) G) (L (X Y k)) K K).run J w=.ok (D (L ⟨W.heap.size,k * 4,K⟩) (n+1-k) (G-k)) w at s2;change ∀ w,(O 28 (D (L ⟨W.heap.size,0,K⟩) (n+1) G) (L (X Y ((k:Int)+1))) K K).run J w=.ok (D (L ⟨W.heap.size,(k+1) * 4,K⟩) (n+1-(k+1)) (G-(k+1))) w at s3;change (ak #[28,3] 28 #[D (L ⟨g,0,K⟩) k cap,X Y ((n:Int)+1-k)]).run J W=.ok (D (L ⟨W.heap.size,0,K⟩) (n+1) G) (W.drew.alloc (V R1 53)) at a1;change (U #[28,28] 3 #[D (L ⟨W.heap.size,k * 4,K⟩) (n+1-k) (G-k),D (L ⟨b,0,K⟩) 1 1]).run J (W.drew.alloc (V R1 53))=.ok (X Y 1) ((W.drew.alloc (V R1 53)).setRow W.heap.size R2) at q2;change (U #[28,28] 3 #[D (L ⟨W.heap.size,(k+1) * 4,K⟩) (n+1-(k+1)) (G-(k+1)),D (L ⟨g,k * 4,K⟩) (n-k) (cap-k)]).run J ((W.drew.alloc (V R1 53)).setRow W.heap.size R2).drew=.ok (X Y ((l.length-k:Nat):Int)) (((W.drew.alloc (V R1 53)).setRow W.heap.size R2).drew.setRow W.heap.size R3) at q3;have e1:((k:Int) == (n:Int))=false:=by rw [beq_eq_false_iff_ne]; omega
 have e2:decide ((cap:Int)<(n:Int)+1)=true:=by simp; omega
 have hGn:n+1<=G:=by omega
 clear hn;generalize W.heap.size=N at *;generalize W.drew.alloc (V R1 53)=W1 at *;generalize W1.setRow N R2=W2 at *;go_enter aj,Z;go_wp2_with (first | (at_builtin; refine kI rfl _ _ 28 3 rfl rfl rfl a1 ?_) | (at_builtin; refine wpList_copy_run rfl _ _ 28 rfl rfl rfl q2 ?_) | fail);clear a1 q2 s0 s1 s2 s3;have hw1:IntKind.i64.wrap ((k:Int)+1)=(k:Int)+1:=by rw [ah]; omega
 have hb1:(0:Int)<=(k:Int)+1:=by omega
 have hb0:(k:Int)+1<=(n:Int)+1:=by omega
 have htn:((k:Int)+1).toNat=k+1:=by omega
 have hb2:¬ (G=k+1):=by omega
 have hb3:(k:Int)<=(n:Int):=by omega
 have hb4:¬ (cap=k):=by omega
 have h81:n+1-(k+1)=n-k:=by omega
 rw [h81] at q3;clear h81
 go_region_law (refine jK rfl (.tmp 50) (.tmp 53) 28 rfl (v:=D (L ⟨N,(k+1) * 4,K⟩) (n-k) (G-(k+1))) (xv:=D (L ⟨g,k * 4,K⟩) (n-k) (cap-k)) (by simp [Act.eval,Act.put]) (by simp [Act.eval,Act.put]) q3 ?_)
 all_goals simp only [Exit.then]
 all_goals apply_assumption
 go_wp2;go_ret;exact Q.out
theorem GQ (B:Nat) (v:Value) (l:List jv) (k:Nat) (c:jv) (b:Nat) (W:World) (ho:kR W B v l) (hx:dG W b (cellsD c).toArray 53) (hne:v.ownBlock≠L b) (hk:k<=l.length) (hl:l.length<=900) (hB:B<=W.heap.size) :
  Calls J 99 #[v,X Y k,D (L ⟨b,0,K⟩) 1 1] W (zu B l k c v W):=by
 rcases Nat.lt_or_ge k l.length with h|h
 ·rcases iP ho with⟨_,h2⟩|⟨g,cap,cur,rfl,h1,h2,h3,h4,h5,h6⟩
  ·rw [h2] at h; simp at h
  ·rcases Nat.lt_or_ge cap (l.length+1) with h7|h7
   ·exact Eh B g _ cap cur l k c b W rfl h2 h4 h3 h6 hx h h7 hl hB
   ·exact A8 B g _ cap cur l k c b W rfl h1 h2 h4 h5 h6 hx (fun e=>hne (by simp [Value.ownBlock,e])) h h7 hl
 ·obtain rfl:k=l.length:=by omega
  exact GK B v l c b W ho hx hl hB
end Go.Proofs.YtkcfgbddlpomgaaGreat.Av
