/-
  slices.Insert of one. Conditions as told.
-/
import Derived.Test.YtghlpefopidlaaaGreatOQ007
import Derived.Test.YtghlpefopidlaaaGreatOQ010
import Derived.Deep.LoopGhost
set_option maxRecDepth 100000
set_option maxHeartbeats 64000000
open _root_.Go renaming World->ay,Calls->aH,Value->aJ
open Go.Builtin renaming copy_->aA,append_->aI
open Go.Ending renaming returned->aj
open Go.Instr renaming sliceAt->U
open Go.IntKind renaming i64->ah,wrap_i64->aG
open Go.Lib renaming hid->O
open Go.Obj renaming cells->au
open Go.Op renaming bytesLess->ak
open Go.Proofs.Tryz renaming prog->J,ntmps106->aC,func106->aD
open Go.Value renaming slice->D,int->Z,string->aB
open _root_.Nat renaming le_refl->V,lt_or_ge->aF
open _root_.Option renaming none->K,some->L
namespace Go.Proofs.YtghlpefopidlaaaGreat
namespace Av
open Go.RowKit Rw YtghlpefopidlaaaGreat.Nm Pr Bk
theorem J6 {W:ay} {b:Nat} {c:dO} (h:dx W b (jZ c).toArray 23):yZ W (D (L ⟨b,0,K⟩) 1 1) [c] :=
 Or.inr ⟨⟨b,0,K⟩,1,rfl,by simp,by decide,mY h (by simp [EJ])⟩
def uK (B:Nat) (l:List dO) (k:Nat) (c:dO) (vv:aJ) (W:ay) (e:Ending) (w':ay):Prop:=∃ v',e=aj v'/\Ac w' B v' (l.take k++c::l.drop k)/\Below B W w'/\(∀ j,j<W.heap.size->L j≠vv.ownBlock->w'.heap[j]?=W.heap[j]?)
theorem Aq (B:Nat) (v:aJ) (l:List dO) (c:dO) (b:Nat) (W:ay) (ho:Ac W B v l) (hx:dx W b (jZ c).toArray 23) (hl:l.length<=900) (hB:B<=W.heap.size) :
  aH J 106 #[v,Z ah (l.length:Nat),D (L ⟨b,0,K⟩) 1 1] W (uK B l l.length c v W):=by
 obtain⟨v',w',hr,ho2,hg⟩:=jO CF B ho (J6 hx) (by omega) (by simp) hB 26;have hr:(aI #[26,26] 26 #[v,D (L ⟨b,0,K⟩) 1 1]).run J W=.ok v' w':=hr;have Q:=O (show uK B l l.length c v W (aj v') w' from ⟨v',rfl,by rw [List.take_of_length_le (V _),List.drop_of_length_le (V _)]; exact ho2,(Below.refl B W).grown hg hB (fun j hj=>(ho.lt j hj).1),fun j hj hne=>hg.block j hj hne⟩);obtain⟨sx,hs,_⟩:=tZ CF (Row.dB ho) l.length (V _);have hs:∀ w,(U 26 v (L (Z ah l.length)) K K).run J w=.ok sx w:=hs;obtain⟨ao,ac,rfl⟩:=(Row.dB ho).len;clear ho ho2 hg;generalize hn:l.length=n at *;clear hn;go_enter aD,aC;go_wp2_with (first | (at_builtin; refine wpList_append_run rfl _ _ 26 rfl rfl rfl hr ?_) | fail);go_ret;exact Q.out
theorem J7 (w:ay) (g b k la lb cb:Nat) (cur cs:Array aJ) (hb:dx w b cs 23) (hg:dx w g cur 23) (hne:b≠g) (h0:0<cur.size):(callFunc 142 #[D (L ⟨b,0,K⟩) la 1,D (L ⟨g,k,K⟩) lb cb]).run J w=.ok (.value (.bool false)) w:=by
 rw [run_callFunc_extern Tryz.func142 (by kernel_rfl) (by kernel_rfl) (by kernel_rfl) (e:=Extern.SlicesOverlaps.overlaps #[26,26] #[4]) (by kernel_rfl),
  Lib.run_overlaps_apart w 26 4 23 Tryz.underlying26 2 Tryz.sizeOf23 ⟨b,0,K⟩ ⟨g,k,K⟩ la 1 lb cb hne 23 23 cs.size cur.size hb.shape hg.shape (by omega) (hb.fr 0) (hb.fr _)]
 rfl
theorem wJ (B g n cap:Nat) (cur:Array aJ) (l:List dO) (k:Nat) (c:dO) (b:Nat) (W:ay) (hn:n=l.length) (hBg:B<=g) (hg:dx W g cur 23) (hcm:cap<=maxLen) (hsz:cur.size=cap * 2) (ht:cur.toList.take (n * 2)=flat EJ l) (hx:dx W b (jZ c).toArray 23) (hne:b≠g) (hk:k<n) (hroom:n+1<=cap) (hl:n<=900) :
  aH J 106 #[D (L ⟨g,0,K⟩) n cap,Z ah k,D (L ⟨b,0,K⟩) 1 1] W (uK B l k c (D (L ⟨g,0,K⟩) n cap) W):=by
 obtain⟨R1,R2,r1,r2,ow⟩:=mh (E:=EJ) (l:=l) (k:=k) (cap:=cap) (cur:=cur) (cs:=(jZ c).toArray) (c:=c) CF (by omega) (by omega) hsz (by rw [<- hn]; exact ht) g b hne;have hov:=fun lb cb=>J7 W g b ((k+1) * 2) 1 lb cb cur (jZ c).toArray hx hg hne (by omega);have s0:=fu (E:=EJ) CF g k n cap (by omega) (by omega);have s1:=iB (E:=EJ) CF ⟨g,0,K⟩ (n+1) n cap (by omega);have s2:=fu (E:=EJ) CF g (k+1) (n+1) cap (by omega) (by omega);have s3:=fu (E:=EJ) CF g k (n+1) cap (by omega) (by omega);have q1:=r1 W.drew 3 (n+1-(k+1)) (cap-(k+1)) (n+1-k) (cap-k) hg (by omega);have q2:=r2 (W.drew.setRow g R1) 3 (n+1-k) (cap-k) (dx.set (show dx W.drew g cur 23 from hg) R1) (dx.other (show dx W.drew b _ 23 from hx) hne R1) rfl (by omega);have Q:=O (show uK B l k c (D (L ⟨g,0,K⟩) n cap) W (aj (D (L ⟨g,0,K⟩) (n+1) cap)) ((W.drew.setRow g R1).setRow g R2) from ⟨_,rfl,by rw [hn]; exact ow _ B hBg hcm (dx.set (dx.set (show dx W.drew g cur 23 from hg) R1) R2),below_setRow (below_setRow (Below.refl B W).drew hBg _) hBg _,fun j hj hne=>(setRow_other _ g j _ (fun e=>hne (by rw [e]; rfl))).trans (setRow_other _ g j _ (fun e=>hne (by rw [e]; rfl)))⟩);clear r1 r2 ow hg ht hx hsz hBg hcm;change ∀ w,(U 26 (D (L ⟨g,0,K⟩) n cap) (L (Z ah k)) K K).run J w=.ok (D (L ⟨g,k * 2,K⟩) (n-k) (cap-k)) w at s0;change ∀ w,(U 26 (D (L ⟨g,0,K⟩) n cap) K (L (Z ah ((n:Int)+1))) K).run J w=.ok (D (L ⟨g,0,K⟩) (n+1) cap) w at s1;change ∀ w,(U 26 (D (L ⟨g,0,K⟩) (n+1) cap) (L (Z ah ((k:Int)+1))) K K).run J w=.ok (D (L ⟨g,(k+1) * 2,K⟩) (n+1-(k+1)) (cap-(k+1))) w at s2;change ∀ w,(U 26 (D (L ⟨g,0,K⟩) (n+1) cap) (L (Z ah k)) K K).run J w=.ok (D (L ⟨g,k * 2,K⟩) (n+1-k) (cap-k)) w at s3;have e1:((k:Int) == (n:Int))=false:=by rw [beq_eq_false_iff_ne]; omega
 have e2:decide ((cap:Int)<(n:Int)+1)=false:=by simp; omega
 change (aA #[26,26] 3 #[D (L ⟨g,(k+1) * 2,K⟩) (n+1-(k+1)) (cap-(k+1)),D (L ⟨g,k * 2,K⟩) (n+1-k) (cap-k)]).run J W.drew=.ok (Z ah ((l.length-k:Nat):Int)) (W.drew.setRow g R1) at q1;change (aA #[26,26] 3 #[D (L ⟨g,k * 2,K⟩) (n+1-k) (cap-k),D (L ⟨b,0,K⟩) 1 1]).run J (W.drew.setRow g R1)=.ok (Z ah 1) ((W.drew.setRow g R1).setRow g R2) at q2;clear hn;go_enter aD,aC;go_wp2_with (first | (simp only [hov]) | fail);clear hov s0 s1 s2 s3;have hw1:IntKind.i64.wrap ((k:Int)+1)=(k:Int)+1:=by rw [aG]; omega
 have hb1:(0:Int)<=(k:Int)+1:=by omega
 have hb0:(k:Int)+1<=(n:Int)+1:=by omega
 have htn:((k:Int)+1).toNat=k+1:=by omega
 have hb2:¬ (cap=k+1):=by omega
 have hb3:(k:Int)<=(n:Int)+1:=by omega
 have hb4:¬ (cap=k):=by omega
 have h81:n+1-(k+1)=n-k:=by omega
 rw [h81] at q1;clear h81
 go_region_law (refine fO rfl (.tmp 73) (.tmp 76) 26 rfl (v:=D (L ⟨g,(k+1) * 2,K⟩) (n-k) (cap-(k+1))) (xv:=D (L ⟨g,k * 2,K⟩) (n+1-k) (cap-k)) (by simp [Act.eval,Act.put]) (by simp [Act.eval,Act.put]) q1 ?_)
 all_goals simp only [Exit.then]
 all_goals apply_assumption
 clear q1 hw1 hb1 hb0 htn hb2 hb3 hb4;have s3:=fu (E:=EJ) CF g k (n+1) cap (by omega) (by omega);change ∀ w,(U 26 (D (L ⟨g,0,K⟩) (n+1) cap) (L (Z ah k)) K K).run J w=.ok (D (L ⟨g,k * 2,K⟩) (n+1-k) (cap-k)) w at s3;go_wp2_with (first | (at_builtin; refine wpList_copy_run rfl _ _ 26 rfl rfl rfl q2 ?_) | fail);go_ret;exact Q.out
theorem zk (B g n cap:Nat) (cur:Array aJ) (l:List dO) (k:Nat) (c:dO) (b:Nat) (W:ay) (hn:n=l.length) (hg:dx W g cur 23) (hcm:cap<=maxLen) (hnc:n<=cap) (ht:cur.toList.take (n * 2)=flat EJ l) (hx:dx W b (jZ c).toArray 23) (hk:k<n) (hroom:cap<n+1) (hl:n<=900) (hB:B<=W.heap.size) :
  aH J 106 #[D (L ⟨g,0,K⟩) n cap,Z ah k,D (L ⟨b,0,K⟩) 1 1] W (uK B l k c (D (L ⟨g,0,K⟩) n cap) W):=by
 have hgw:=hg.lt;have hbw:=hx.lt;obtain⟨G,R1,R2,R3,hG1,hG2,r1,r2,r3,ow⟩:=nU (E:=EJ) (l:=l) (k:=k) (cap:=cap) (cur:=cur) (cs:=(jZ c).toArray) (c:=c) CF 3 Tryz.underlying3 (by omega) (by omega) (by omega) (by omega) (by rw [<- hn]; exact ht) W g b hg hbw;unfold maxLen at hcm hG2;have s0:=fu (E:=EJ) CF g k n cap (by omega) (by omega);have s1:=iB (E:=EJ) CF ⟨g,0,K⟩ k n cap (by omega);have s2:=fu (E:=EJ) CF W.heap.size k (n+1) G (by omega) (by omega);have s3:=fu (E:=EJ) CF W.heap.size (k+1) (n+1) G (by omega) (by omega);have a1:=r1 26;have n1:=dK W.drew R1 23;have bl:W.drew.heap.size=W.heap.size:=rfl;rw [bl] at n1;have g1:dx (W.drew.alloc (au R1 23)) g cur 23:=dx.more (show dx W.drew g cur 23 from hg) _;have x1:dx (W.drew.alloc (au R1 23)) b (jZ c).toArray 23:=dx.more (show dx W.drew b _ 23 from hx) _;have q2:=r2 (W.drew.alloc (au R1 23)) 3 (n+1-k) (G-k) n1 x1 rfl (by omega);have q3:=r3 ((W.drew.alloc (au R1 23)).setRow W.heap.size R2).drew 3 (n+1-(k+1)) (G-(k+1)) (n-k) (cap-k) (dx.set n1 R2) (dx.other g1 (by omega) R2) (by omega);have Q:=O (show uK B l k c (D (L ⟨g,0,K⟩) n cap) W (aj (D (L ⟨W.heap.size,0,K⟩) (n+1) G)) (((W.drew.alloc (au R1 23)).setRow W.heap.size R2).drew.setRow W.heap.size R3) from ⟨_,rfl,by rw [hn]; exact ow _ B hB (dx.set (dx.set n1 R2) R3),below_setRow (below_setRow ((Below.refl B W).drew.alloc hB _) hB _).drew hB _,fun j hj _=>(setRow_other _ W.heap.size j _ (by omega)).trans ((setRow_other _ W.heap.size j _ (by omega)).trans (Array.getElem?_push_lt hj |>.trans (Array.getElem?_eq_getElem hj).symm))⟩);have l1:l.length+1=n+1:=by rw [hn]
 rw [l1,<- hn] at a1;clear r1 r2 r3 ow hg ht hx g1 x1 n1 bl l1;change ∀ w,(U 26 (D (L ⟨g,0,K⟩) n cap) (L (Z ah k)) K K).run J w=.ok (D (L ⟨g,k * 2,K⟩) (n-k) (cap-k)) w at s0;change ∀ w,(U 26 (D (L ⟨g,0,K⟩) n cap) K (L (Z ah k)) K).run J w=.ok (D (L ⟨g,0,K⟩) k cap) w at s1;change ∀ w,(U 26 (D (L ⟨W.heap.size,0,K⟩) (n+1) G) (L (Z ah k)) K K).run J w=.ok (D (L ⟨W.heap.size,k * 2,K⟩) (n+1-k) (G-k)) w at s2;change ∀ w,(U 26 (D (L ⟨W.heap.size,0,K⟩) (n+1) G) (L (Z ah ((k:Int)+1))) K K).run J w=.ok (D (L ⟨W.heap.size,(k+1) * 2,K⟩) (n+1-(k+1)) (G-(k+1))) w at s3;change (aI #[26,3] 26 #[D (L ⟨g,0,K⟩) k cap,Z ah ((n:Int)+1-k)]).run J W=.ok (D (L ⟨W.heap.size,0,K⟩) (n+1) G) (W.drew.alloc (au R1 23)) at a1;change (aA #[26,26] 3 #[D (L ⟨W.heap.size,k * 2,K⟩) (n+1-k) (G-k),D (L ⟨b,0,K⟩) 1 1]).run J (W.drew.alloc (au R1 23))=.ok (Z ah 1) ((W.drew.alloc (au R1 23)).setRow W.heap.size R2) at q2;change (aA #[26,26] 3 #[D (L ⟨W.heap.size,(k+1) * 2,K⟩) (n+1-(k+1)) (G-(k+1)),D (L ⟨g,k * 2,K⟩) (n-k) (cap-k)]).run J ((W.drew.alloc (au R1 23)).setRow W.heap.size R2).drew=.ok (Z ah ((l.length-k:Nat):Int)) (((W.drew.alloc (au R1 23)).setRow W.heap.size R2).drew.setRow W.heap.size R3) at q3;have e1:((k:Int) == (n:Int))=false:=by rw [beq_eq_false_iff_ne]; omega
 have e2:decide ((cap:Int)<(n:Int)+1)=true:=by simp; omega
 have hGn:n+1<=G:=by omega
 clear hn;generalize W.heap.size=N at *;generalize W.drew.alloc (au R1 23)=W1 at *;generalize W1.setRow N R2=W2 at *;go_enter aD,aC;go_wp2_with (first | (at_builtin; refine fZ rfl _ _ 26 3 rfl rfl rfl a1 ?_) | (at_builtin; refine wpList_copy_run rfl _ _ 26 rfl rfl rfl q2 ?_) | fail);clear a1 q2 s0 s1 s2 s3;have hw1:IntKind.i64.wrap ((k:Int)+1)=(k:Int)+1:=by rw [aG]; omega
 have hb1:(0:Int)<=(k:Int)+1:=by omega
 have hb0:(k:Int)+1<=(n:Int)+1:=by omega
 have htn:((k:Int)+1).toNat=k+1:=by omega
 have hb2:¬ (G=k+1):=by omega
 have hb3:(k:Int)<=(n:Int):=by omega
 have hb4:¬ (cap=k):=by omega
 have h81:n+1-(k+1)=n-k:=by omega
 rw [h81] at q3;clear h81
 go_region_law (refine fO rfl (.tmp 50) (.tmp 53) 26 rfl (v:=D (L ⟨N,(k+1) * 2,K⟩) (n-k) (G-(k+1))) (xv:=D (L ⟨g,k * 2,K⟩) (n-k) (cap-k)) (by simp [Act.eval,Act.put]) (by simp [Act.eval,Act.put]) q3 ?_)
 all_goals simp only [Exit.then]
 all_goals apply_assumption
 go_wp2;go_ret;exact Q.out
theorem Au (B:Nat) (v:aJ) (l:List dO) (k:Nat) (c:dO) (b:Nat) (W:ay) (ho:Ac W B v l) (hx:dx W b (jZ c).toArray 23) (hne:v.ownBlock≠L b) (hk:k<=l.length) (hl:l.length<=900) (hB:B<=W.heap.size) :
  aH J 106 #[v,Z ah k,D (L ⟨b,0,K⟩) 1 1] W (uK B l k c v W):=by
 rcases aF k l.length with h|h
 ·rcases eT ho with⟨_,h2⟩|⟨g,cap,cur,rfl,h1,h2,h3,h4,h5,h6⟩
  ·rw [h2] at h; simp at h
  ·rcases aF cap (l.length+1) with h7|h7
   ·exact zk B g _ cap cur l k c b W rfl h2 h4 h3 h6 hx h h7 hl hB
   ·exact wJ B g _ cap cur l k c b W rfl h1 h2 h4 h5 h6 hx (fun e=>hne (by simp [Value.ownBlock,e])) h h7 hl
 ·obtain rfl:k=l.length:=by omega
  exact Aq B v l c b W ho hx hl hB
end Av
namespace Bk
open Go.RowKit Rw YtghlpefopidlaaaGreat.Nm Pr
end Bk
namespace Pr
open Go.RowKit Go.Sort Pu Rw Va
theorem Dn (a b:ByteArray) (w:ay):aH J 202 #[aB a,aB b] w fun e w'=>e=aj (Z ah (yY a b))/\w'=w:=by
 go_enter Tryz.func202,Tryz.ntmps202;go_wp2_with fail;rw [run_callFunc_extern Tryz.func204 (by kernel_rfl) (by kernel_rfl) (by kernel_rfl) (e:=Extern.BytealgCompare.compare) (by kernel_rfl),Lib.run_compareString];simp only [Result.andThen];rw [Oper.upon_value];go_wp2;go_ret;exact⟨rfl,rfl⟩
theorem lS (a b:ByteArray) (w:ay):aH J 197 #[aB a,aB b] w fun e w'=>e=aj (Z ah (yY a b))/\w'=w:=by
 go_enter Tryz.func197,Tryz.ntmps197;go_wp2_with fail;refine (Dn a b w).mono ?_;rintro e w' ⟨rfl,rfl⟩;go_wp2;go_ret;exact⟨rfl,rfl⟩
theorem Dp (c d:C5) (w:ay):aH J 190 #[cv c,cv d] w fun e w'=>e=aj (Z ah (yY c.1 d.1))/\Below w.heap.size w w':=by
 go_enter Tryz.func190,Tryz.ntmps190;go_wp2_with fail;refine (lS c.1 d.1 _).mono ?_;rintro e w' ⟨rfl,rfl⟩;go_wp2;go_ret;exact⟨rfl,((Below.refl w.heap.size w).alloc (V _) _).alloc (by simp) _⟩
theorem xG (c d:C5) (r:Int) (hr:yY c.1 d.1=r) (w:ay) (k:Nat) (os:Array Obj) :
  aH J 190 #[cv c,cv d] (grow (redrawn w k) os) fun e w''=>e=aj (Z ah r)/\∃ p:Regrown,w''=grow (redrawn w p.d) p.os:=by
 subst hr;exact Calls.regrown_of (Dp c d _)
theorem uL {W W1:ay} {v:aJ} {l:List C5} {ao:Option Addr} {n c k:Nat} {x:C5} (h:gq W v l) (hv:v=D ao n c) (hn:l.length=n) (hk:l[k]?=L x) (hb:Below W.heap.size W W1) :
  ∃ p:Addr,(∀ w,(Instr.indexAt 34 (D ao n c) (Z ah k)).run J w=.ok (.pointer (L p)) w) /\
   (∀ d os,(grow (redrawn W1 d) os).cell? p=L (aB x.1))/\(∀ d os,(grow (redrawn W1 d) os).cell? ⟨p.block,p.off+1,K⟩=L (Z ah x.2.1))/\(∀ d os,(grow (redrawn W1 d) os).cell? ⟨p.block,p.off+2,K⟩=L (Z ah x.2.2.1))/\(∀ d os,(grow (redrawn W1 d) os).cell? ⟨p.block,p.off+3,K⟩=L (Z ah x.2.2.2.1))/\(∀ d os,(grow (redrawn W1 d) os).cell? ⟨p.block,p.off+4,K⟩=L (aB x.2.2.2.2)):=by
 obtain⟨p,h1,h2⟩:=Ue h hv hn hk;obtain⟨c0,c1,c2,c3,c4⟩:=h2 _ hb;exact⟨p,h1,cell_regrown c0,cell_regrown c1,cell_regrown c2,cell_regrown c3,cell_regrown c4⟩
theorem sQ {W:ay} {b:Nat} {c:C5} (h:dx W b (cells5 c).toArray 91):(∀ d os,(grow (redrawn W d) os).cell? ⟨b,0,K⟩=L (aB c.1))/\(∀ d os,(grow (redrawn W d) os).cell? ⟨b,1,K⟩=L (Z ah c.2.1))/\(∀ d os,(grow (redrawn W d) os).cell? ⟨b,2,K⟩=L (Z ah c.2.2.1))/\(∀ d os,(grow (redrawn W d) os).cell? ⟨b,3,K⟩=L (Z ah c.2.2.2.1))/\(∀ d os,(grow (redrawn W d) os).cell? ⟨b,4,K⟩=L (aB c.2.2.2.2)) :=
 ⟨cell_regrown (h.cell 0),cell_regrown (h.cell 1),cell_regrown (h.cell 2),cell_regrown (h.cell 3),cell_regrown (h.cell 4)⟩
theorem J8 (v:aJ) (l:List Cn) (c:Cn) (w:ay) (hv:gq w v (l.map r5)) (hr:gU l) (hl:l.length<=100) :
  aH J 189 #[v,cv (r5 c),.func (.func 190) #[] #[]] w fun e w'=>e=aj (.tuple #[Z ah (jv l c.1),.bool (jH l c.1)])/\Below w.heap.size w w':=by
 have HL:=O hv;have HR:=O hr;have LN:=O (show (l.map r5).length=l.length from List.length_map ..);have BX:=O (dK w (cells5 (r5 c)).toArray 91);have B1:=O ((Below.refl w.heap.size w).alloc (V _) (au (cells5 (r5 c)).toArray 91));obtain⟨ao,ac,rfl⟩:=hv.len;rw [List.length_map] at HL ⊢;obtain⟨n,hn⟩:∃ n,n=l.length:=⟨_,rfl⟩;rw [<- hn] at HL hl ⊢;have HN:=O hn;obtain⟨cnt,hc⟩:∃ k,k=jv l c.1:=⟨_,rfl⟩;obtain⟨th,ht⟩:∃ k,k=jH l c.1:=⟨_,rfl⟩;rw [<- hc,<- ht];have HC:=O hc;have HT:=O ht;clear hv hr hn hc ht;go_enter Tryz.func189,Tryz.ntmps189;go_wp2;change Code.wp _ _ _ _ (w.alloc (au (cells5 (r5 c)).toArray 91));generalize w.alloc (au (cells5 (r5 c)).toArray 91)=w1 at *
 go_loopg [9,10] n (fun kx s9 s10 wr=>∃ lo hi:Nat,s9=Z ah lo/\s10=Z ah hi/\lo<=hi/\hi<=n/\hi-lo<=kx/\Below w.heap.size w wr/\dx wr w.heap.size (cells5 (r5 c)).toArray 91 /\
  (∀ (t:Nat) (y:Cn),t<lo->l[t]?=L y->ak y.1.toList c.1.toList=true)/\(∀ (t:Nat) (y:Cn),hi<=t->l[t]?=L y->ak y.1.toList c.1.toList=false))
 case atStart=>exact⟨0,n,rfl,rfl,Nat.zero_le _,V _,by omega,B1.out,BX.out,fun t y h=>by omega,fun t y h1 h2=>by have:=(List.getElem?_eq_some_iff.1 h2).1; have:=HN.out; omega⟩
 case round =>
  clear B1 BX;obtain⟨lo,hi,rfl,rfl,hlh,hin,hg,hb,hx,ha,hz⟩:=hrel;have B:=O hb;have X:=O hx;have AL:=O ha;have ZL:=O hz;clear hb hx ha hz;by_cases hlt:lo<hi
  ·obtain⟨y,hy⟩:∃ y,l[(lo+hi) / 2]?=L y:=⟨_,List.getElem?_eq_getElem (by have:=HN.out; omega)⟩;obtain⟨p,ix,p0,p1,p2,p3,p4⟩:=uL (x:=r5 y) HL.out rfl (LN.out.trans HN.out.symm) (by rw [List.getElem?_map,hy]; rfl) B.out;obtain⟨b0,b1,b2,b3,b4⟩:=sQ X.out;obtain⟨r,hr⟩:∃ r,yY y.1 c.1=r:=⟨_,rfl⟩;have C:=xG (r5 y) (r5 c) r hr wr;have LE:=O (show decide (r<0)=ak y.1.toList c.1.toList by rw [<- hr]; exact GA _ _);have Y:=O hy;simp only [r5] at p0 p1 p2 p3 p4 b0 b1 b2 b3 b4 C ⊢;clear hy hr;have e23:((lo:Int)+(hi:Int)) / 2=(((lo+hi) / 2:Nat):Int):=by omega
   generalize hm:(lo+hi) / 2=m at *;have BN:=O (fun dq osq=>B.out.trans ((below_regrown wr dq osq).mono B.out.size));have XN:=O (fun dq osq=>X.out.on (below_regrown wr dq osq));by_cases hneg:r<0
   ·have d0:decide (r<0)=true:=by simpa using hneg
    have LT:=O (show ak y.1.toList c.1.toList=true by rw [<- LE.out]; exact d0);go_wp2;refine wp_region_quiet_below (by kernel_rfl) (by kernel_rfl) ?_
    repeat (go_big_quiet_step (first | (with_reducible exact C _ _) | exact om _ _))
    refine wpQuiet_nil ?_;intro _ hw';obtain⟨⟨dq,osq⟩,hw''⟩:=hw';subst hw'';clear ix p0 p1 p2 p3 p4 b0 b1 b2 b3 b4 C;go_wp2
    go_roundg (hi-(m+1))
    case measure=>omega
    case rel=>exact⟨m+1,hi,by go_num,rfl,by omega,hin,V _,BN.out _ _,XN.out _ _,fun t z h1 h2=>by
     rcases aF t m with h3|h3
     ·exact xu HR.out (by omega) h2 Y.out LT.out
     ·obtain rfl:t=m:=by omega
      rw [Y.out] at h2;rw [<- Option.some.inj h2];exact LT.out,ZL.out⟩
   ·have d0:decide (r<0)=false:=by simpa using hneg
    have LT:=O (show ak y.1.toList c.1.toList=false by rw [<- LE.out]; exact d0);go_wp2;refine wp_region_quiet_below (by kernel_rfl) (by kernel_rfl) ?_
    repeat (go_big_quiet_step (first | (with_reducible exact C _ _) | exact om _ _))
    refine wpQuiet_nil ?_;intro _ hw';obtain⟨⟨dq,osq⟩,hw''⟩:=hw';subst hw'';clear ix p0 p1 p2 p3 p4 b0 b1 b2 b3 b4 C;go_wp2
    go_roundg (m-lo)
    case measure=>omega
    case rel=>exact⟨lo,m,rfl,rfl,by omega,by omega,V _,BN.out _ _,XN.out _ _,AL.out,fun t z h1 h2=>by
     cases h:ak z.1.toList c.1.toList
     ·rfl
     ·have:=xu HR.out h1 Y.out h2 h;rw [LT.out] at this;cases this⟩
  ·obtain rfl:hi=lo:=by omega
   have E:=O (EY l c.1 hi (by have:=HN.out; omega) AL.out (fun z hz=>ZL.out hi z (V _) hz));by_cases hn:hi<n
   ·obtain⟨y,hy⟩:∃ y,l[hi]?=L y:=⟨_,List.getElem?_eq_getElem (by have:=HN.out; omega)⟩;obtain⟨p,ix,p0,p1,p2,p3,p4⟩:=uL (x:=r5 y) HL.out rfl (LN.out.trans HN.out.symm) (by rw [List.getElem?_map,hy]; rfl) B.out;obtain⟨b0,b1,b2,b3,b4⟩:=sQ X.out;obtain⟨r,hr⟩:∃ r,yY y.1 c.1=r:=⟨_,rfl⟩;have C:=xG (r5 y) (r5 c) r hr wr;have TH:=O (show th=(r == 0) by
     rw [HT.out,jH,E.out,hy,Bool.eq_iff_iff,beq_iff_eq,<- hr,GH,decide_eq_true_eq])
    simp only [r5] at p0 p1 p2 p3 p4 b0 b1 b2 b3 b4 C ⊢;have BN:=O (fun dq osq=>B.out.trans ((below_regrown wr dq osq).mono B.out.size));have CE:=O (show cnt=hi by rw [HC.out,E.out]);clear hy hr hlt;have g4:decide ((hi:Int)<(n:Int))=true:=by simp; omega
    go_wp2;refine wp_region_quiet_below (by kernel_rfl) (by kernel_rfl) ?_
    repeat (go_big_quiet_step (first | (with_reducible exact C _ _) | exact om _ _))
    refine wpQuiet_nil ?_;intro _ hw';obtain⟨⟨dq,osq⟩,hw''⟩:=hw';subst hw'';clear ix p0 p1 p2 p3 p4 b0 b1 b2 b3 b4 C;go_wp2
    go_ret2
    exact⟨by rw [TH.out,CE.out]; rfl,BN.out _ _⟩
   ·have TH:=O (show th=false by
     rw [HT.out,jH,E.out,List.getElem?_eq_none (by have:=HN.out; omega)])
    have CE:=O (show cnt=hi by rw [HC.out,E.out]);have BN:=O (fun dq osq=>B.out.trans ((below_regrown wr dq osq).mono B.out.size));have g4:decide ((hi:Int)<(n:Int))=false:=by simp; omega
    clear hlt;go_wp2;refine wp_region_quiet_below (by kernel_rfl) (by kernel_rfl) ?_
    repeat (go_big_quiet_step (first | (with_reducible exact C _ _) | exact om _ _))
    refine wpQuiet_nil ?_;intro _ hw';obtain⟨⟨dq,osq⟩,hw''⟩:=hw';subst hw'';go_wp2
    go_ret2
    exact⟨by rw [TH.out,CE.out]; rfl,BN.out _ _⟩
end Pr
end Go.Proofs.YtghlpefopidlaaaGreat
