/-
  slices.Insert of one. Conditions as told.
-/
import Derived.Test.YtncogjpmboglhaaGreatF012
import Derived.Test.YtncogjpmboglhaaGreatF008
import Derived.Laws.Externs
import Derived.Lib.Hide
import Derived.Lib.QuietBelow
import Derived.BigQuiet
set_option maxRecDepth 100000
set_option maxHeartbeats 64000000
namespace Go.Proofs.YtncogjpmboglhaaGreat.Av
open Go.RowKit Rw YtncogjpmboglhaaGreat.Nm Pr Bk
theorem row_boxJ {W:World} {b:Nat} {c:XID} (h:Box W b (cellsJ c).toArray 38):RowJ W (.slice (some ⟨b,0,none⟩) 1 1) [c] :=
 Or.inr ⟨⟨b,0,none⟩,1,rfl,by simp,by decide,box_one h (by simp [EJ])⟩
def InsQJ (B:Nat) (l:List XID) (k:Nat) (c:XID) (vv:Value) (W:World) (e:Ending) (w':World):Prop:=∃ v',e=.returned v'∧OwnJ w' B v' (l.take k++c::l.drop k)∧Below B W w'∧(∀ j,j<W.heap.size→some j≠vv.ownBlock→w'.heap[j]?=W.heap[j]?)
theorem insert_endJ (B:Nat) (v:Value) (l:List XID) (c:XID) (b:Nat) (W:World) (ho:OwnJ W B v l) (hx:Box W b (cellsJ c).toArray 38) (hl:l.length≤900) (hB:B≤W.heap.size) :
  Calls Tryz.prog 129 #[v,.int .i64 (l.length:Nat),.slice (some ⟨b,0,none⟩) 1 1] W (InsQJ B l l.length c v W):=by
 obtain⟨v',w',hr,ho2,hg⟩:=app_row okJ B ho (row_boxJ hx) (by omega) (by simp) hB 27
 have hr:(Builtin.append_ #[27,27] 27 #[v,.slice (some ⟨b,0,none⟩) 1 1]).run Tryz.prog W=.ok v' w':=hr
 have Q:=Lib.hid (show InsQJ B l l.length c v W (.returned v') w' from ⟨v',rfl,by rw [List.take_of_length_le (Nat.le_refl _),List.drop_of_length_le (Nat.le_refl _)]; exact ho2,(Below.refl B W).grown hg hB (fun j hj=>(ho.lt j hj).1),fun j hj hne=>hg.block j hj hne⟩)
 obtain⟨sx,hs,_⟩:=row_hi okJ (Row.of_own ho) l.length (Nat.le_refl _)
 have hs:∀ w,(Instr.sliceAt 27 v (some (.int .i64 l.length)) none none).run Tryz.prog w=.ok sx w:=hs
 obtain⟨ao,ac,rfl⟩:=(Row.of_own ho).len
 clear ho ho2 hg
 generalize hn:l.length=n at *
 clear hn
 go_enter Tryz.func129,Tryz.ntmps129
 go_wp2_with (first | (at_builtin; refine wpList_append_run rfl _ _ 27 rfl rfl rfl hr ?_) | fail)
 go_ret
 exact Q.out
theorem no_overJ (w:World) (g b k la lb cb:Nat) (cur cs:Array Value) (hb:Box w b cs 38) (hg:Box w g cur 38) (hne:b≠g) (h0:0<cur.size):(callFunc 155 #[.slice (some ⟨b,0,none⟩) la 1,.slice (some ⟨g,k,none⟩) lb cb]).run Tryz.prog w=.ok (.value (.bool false)) w:=by
 rw [run_callFunc_extern Tryz.func155 (by kernel_rfl) (by kernel_rfl) (by kernel_rfl) (e:=Extern.SlicesOverlaps.overlaps #[27,27] #[4]) (by kernel_rfl),
  Lib.run_overlaps_apart w 27 4 38 Tryz.underlying27 2 Tryz.sizeOf38 ⟨b,0,none⟩ ⟨g,k,none⟩ la 1 lb cb hne 38 38 cs.size cur.size hb.shape hg.shape (by omega) (hb.fr 0) (hb.fr _)]
 rfl
theorem insert_shiftJ (B g n cap:Nat) (cur:Array Value) (l:List XID) (k:Nat) (c:XID) (b:Nat) (W:World) (hn:n=l.length) (hBg:B≤g) (hg:Box W g cur 38) (hcm:cap≤maxLen) (hsz:cur.size=cap * 2) (ht:cur.toList.take (n * 2)=flat EJ l) (hx:Box W b (cellsJ c).toArray 38) (hne:b≠g) (hk:k<n) (hroom:n+1≤cap) (hl:n≤900) :
  Calls Tryz.prog 129 #[.slice (some ⟨g,0,none⟩) n cap,.int .i64 k,.slice (some ⟨b,0,none⟩) 1 1] W (InsQJ B l k c (.slice (some ⟨g,0,none⟩) n cap) W):=by
 obtain⟨R1,R2,r1,r2,ow⟩:=shift_mid (E:=EJ) (l:=l) (k:=k) (cap:=cap) (cur:=cur) (cs:=(cellsJ c).toArray) (c:=c) okJ (by omega) (by omega) hsz (by rw [← hn]; exact ht) g b hne
 have hov:=fun lb cb=>no_overJ W g b ((k+1) * 2) 1 lb cb cur (cellsJ c).toArray hx hg hne (by omega)
 have s0:=cut_hi (E:=EJ) okJ g k n cap (by omega) (by omega)
 have s1:=slice_lo (E:=EJ) okJ ⟨g,0,none⟩ (n+1) n cap (by omega)
 have s2:=cut_hi (E:=EJ) okJ g (k+1) (n+1) cap (by omega) (by omega)
 have s3:=cut_hi (E:=EJ) okJ g k (n+1) cap (by omega) (by omega)
 have q1:=r1 W.drew 3 (n+1-(k+1)) (cap-(k+1)) (n+1-k) (cap-k) hg (by omega)
 have q2:=r2 (W.drew.setRow g R1) 3 (n+1-k) (cap-k) (Box.set (show Box W.drew g cur 38 from hg) R1) (Box.other (show Box W.drew b _ 38 from hx) hne R1) rfl (by omega)
 have Q:=Lib.hid (show InsQJ B l k c (.slice (some ⟨g,0,none⟩) n cap) W (.returned (.slice (some ⟨g,0,none⟩) (n+1) cap)) ((W.drew.setRow g R1).setRow g R2) from ⟨_,rfl,by rw [hn]; exact ow _ B hBg hcm (Box.set (Box.set (show Box W.drew g cur 38 from hg) R1) R2),below_setRow (below_setRow (Below.refl B W).drew hBg _) hBg _,fun j hj hne=>(setRow_other _ g j _ (fun e=>hne (by rw [e]; rfl))).trans (setRow_other _ g j _ (fun e=>hne (by rw [e]; rfl)))⟩)
 clear r1 r2 ow hg ht hx hsz hBg hcm
 change ∀ w,(Instr.sliceAt 27 (.slice (some ⟨g,0,none⟩) n cap) (some (.int .i64 k)) none none).run Tryz.prog w=.ok (.slice (some ⟨g,k * 2,none⟩) (n-k) (cap-k)) w at s0
 change ∀ w,(Instr.sliceAt 27 (.slice (some ⟨g,0,none⟩) n cap) none (some (.int .i64 ((n:Int)+1))) none).run Tryz.prog w=.ok (.slice (some ⟨g,0,none⟩) (n+1) cap) w at s1
 change ∀ w,(Instr.sliceAt 27 (.slice (some ⟨g,0,none⟩) (n+1) cap) (some (.int .i64 ((k:Int)+1))) none none).run Tryz.prog w=.ok (.slice (some ⟨g,(k+1) * 2,none⟩) (n+1-(k+1)) (cap-(k+1))) w at s2
 change ∀ w,(Instr.sliceAt 27 (.slice (some ⟨g,0,none⟩) (n+1) cap) (some (.int .i64 k)) none none).run Tryz.prog w=.ok (.slice (some ⟨g,k * 2,none⟩) (n+1-k) (cap-k)) w at s3
 have e1:((k:Int) == (n:Int))=false:=by rw [beq_eq_false_iff_ne]; omega
 have e2:decide ((cap:Int)<(n:Int)+1)=false:=by simp; omega
 change (Builtin.copy_ #[27,27] 3 #[.slice (some ⟨g,(k+1) * 2,none⟩) (n+1-(k+1)) (cap-(k+1)),.slice (some ⟨g,k * 2,none⟩) (n+1-k) (cap-k)]).run Tryz.prog W.drew=.ok (.int .i64 ((l.length-k:Nat):Int)) (W.drew.setRow g R1) at q1
 change (Builtin.copy_ #[27,27] 3 #[.slice (some ⟨g,k * 2,none⟩) (n+1-k) (cap-k),.slice (some ⟨b,0,none⟩) 1 1]).run Tryz.prog (W.drew.setRow g R1)=.ok (.int .i64 1) ((W.drew.setRow g R1).setRow g R2) at q2
 clear hn
 go_enter Tryz.func129,Tryz.ntmps129
 go_wp2_with (first | (simp only [hov]) | fail)
 clear hov s0 s1 s2 s3
 have hw1:IntKind.i64.wrap ((k:Int)+1)=(k:Int)+1:=by rw [IntKind.wrap_i64]; omega
 have hb1:(0:Int)≤(k:Int)+1:=by omega
 have hb0:(k:Int)+1≤(n:Int)+1:=by omega
 have htn:((k:Int)+1).toNat=k+1:=by omega
 have hb2:¬ (cap=k+1):=by omega
 have hb3:(k:Int)≤(n:Int)+1:=by omega
 have hb4:¬ (cap=k):=by omega
 have h81:n+1-(k+1)=n-k:=by omega
 rw [h81] at q1
 clear h81
 go_region_law (refine step_copy_run rfl (.tmp 73) (.tmp 76) 27 rfl (v:=.slice (some ⟨g,(k+1) * 2,none⟩) (n-k) (cap-(k+1))) (xv:=.slice (some ⟨g,k * 2,none⟩) (n+1-k) (cap-k)) (by simp [Act.eval,Act.put]) (by simp [Act.eval,Act.put]) q1 ?_)
 all_goals simp only [Exit.then]
 all_goals apply_assumption
 clear q1 hw1 hb1 hb0 htn hb2 hb3 hb4
 have s3:=cut_hi (E:=EJ) okJ g k (n+1) cap (by omega) (by omega)
 change ∀ w,(Instr.sliceAt 27 (.slice (some ⟨g,0,none⟩) (n+1) cap) (some (.int .i64 k)) none none).run Tryz.prog w=.ok (.slice (some ⟨g,k * 2,none⟩) (n+1-k) (cap-k)) w at s3
 go_wp2_with (first | (at_builtin; refine wpList_copy_run rfl _ _ 27 rfl rfl rfl q2 ?_) | fail)
 go_ret
 exact Q.out
theorem insert_growJ (B g n cap:Nat) (cur:Array Value) (l:List XID) (k:Nat) (c:XID) (b:Nat) (W:World) (hn:n=l.length) (hg:Box W g cur 38) (hcm:cap≤maxLen) (hnc:n≤cap) (ht:cur.toList.take (n * 2)=flat EJ l) (hx:Box W b (cellsJ c).toArray 38) (hk:k<n) (hroom:cap<n+1) (hl:n≤900) (hB:B≤W.heap.size) :
  Calls Tryz.prog 129 #[.slice (some ⟨g,0,none⟩) n cap,.int .i64 k,.slice (some ⟨b,0,none⟩) 1 1] W (InsQJ B l k c (.slice (some ⟨g,0,none⟩) n cap) W):=by
 have hgw:=hg.lt
 have hbw:=hx.lt
 obtain⟨G,R1,R2,R3,hG1,hG2,r1,r2,r3,ow⟩:=grow_mid (E:=EJ) (l:=l) (k:=k) (cap:=cap) (cur:=cur) (cs:=(cellsJ c).toArray) (c:=c) okJ 3 Tryz.underlying3 (by omega) (by omega) (by omega) (by omega) (by rw [← hn]; exact ht) W g b hg hbw
 unfold maxLen at hcm hG2
 have s0:=cut_hi (E:=EJ) okJ g k n cap (by omega) (by omega)
 have s1:=slice_lo (E:=EJ) okJ ⟨g,0,none⟩ k n cap (by omega)
 have s2:=cut_hi (E:=EJ) okJ W.heap.size k (n+1) G (by omega) (by omega)
 have s3:=cut_hi (E:=EJ) okJ W.heap.size (k+1) (n+1) G (by omega) (by omega)
 have a1:=r1 27
 have n1:=box_new W.drew R1 38
 have bl:W.drew.heap.size=W.heap.size:=rfl
 rw [bl] at n1
 have g1:Box (W.drew.alloc (.cells R1 38)) g cur 38:=Box.more (show Box W.drew g cur 38 from hg) _
 have x1:Box (W.drew.alloc (.cells R1 38)) b (cellsJ c).toArray 38:=Box.more (show Box W.drew b _ 38 from hx) _
 have q2:=r2 (W.drew.alloc (.cells R1 38)) 3 (n+1-k) (G-k) n1 x1 rfl (by omega)
 have q3:=r3 ((W.drew.alloc (.cells R1 38)).setRow W.heap.size R2).drew 3 (n+1-(k+1)) (G-(k+1)) (n-k) (cap-k) (Box.set n1 R2) (Box.other g1 (by omega) R2) (by omega)
 have Q:=Lib.hid (show InsQJ B l k c (.slice (some ⟨g,0,none⟩) n cap) W (.returned (.slice (some ⟨W.heap.size,0,none⟩) (n+1) G)) (((W.drew.alloc (.cells R1 38)).setRow W.heap.size R2).drew.setRow W.heap.size R3) from ⟨_,rfl,by rw [hn]; exact ow _ B hB (Box.set (Box.set n1 R2) R3),below_setRow (below_setRow ((Below.refl B W).drew.alloc hB _) hB _).drew hB _,fun j hj _=>(setRow_other _ W.heap.size j _ (by omega)).trans ((setRow_other _ W.heap.size j _ (by omega)).trans (Array.getElem?_push_lt hj |>.trans (Array.getElem?_eq_getElem hj).symm))⟩)
 have l1:l.length+1=n+1:=by rw [hn]
 rw [l1,← hn] at a1
 clear r1 r2 r3 ow hg ht hx g1 x1 n1 bl l1
 change ∀ w,(Instr.sliceAt 27 (.slice (some ⟨g,0,none⟩) n cap) (some (.int .i64 k)) none none).run Tryz.prog w=.ok (.slice (some ⟨g,k * 2,none⟩) (n-k) (cap-k)) w at s0
 change ∀ w,(Instr.sliceAt 27 (.slice (some ⟨g,0,none⟩) n cap) none (some (.int .i64 k)) none).run Tryz.prog w=.ok (.slice (some ⟨g,0,none⟩) k cap) w at s1
 change ∀ w,(Instr.sliceAt 27 (.slice (some ⟨W.heap.size,0,none⟩) (n+1) G) (some (.int .i64 k)) none none).run Tryz.prog w=.ok (.slice (some ⟨W.heap.size,k * 2,none⟩) (n+1-k) (G-k)) w at s2
 change ∀ w,(Instr.sliceAt 27 (.slice (some ⟨W.heap.size,0,none⟩) (n+1) G) (some (.int .i64 ((k:Int)+1))) none none).run Tryz.prog w=.ok (.slice (some ⟨W.heap.size,(k+1) * 2,none⟩) (n+1-(k+1)) (G-(k+1))) w at s3
 change (Builtin.append_ #[27,3] 27 #[.slice (some ⟨g,0,none⟩) k cap,.int .i64 ((n:Int)+1-k)]).run Tryz.prog W=.ok (.slice (some ⟨W.heap.size,0,none⟩) (n+1) G) (W.drew.alloc (.cells R1 38)) at a1
 change (Builtin.copy_ #[27,27] 3 #[.slice (some ⟨W.heap.size,k * 2,none⟩) (n+1-k) (G-k),.slice (some ⟨b,0,none⟩) 1 1]).run Tryz.prog (W.drew.alloc (.cells R1 38))=.ok (.int .i64 1) ((W.drew.alloc (.cells R1 38)).setRow W.heap.size R2) at q2
 change (Builtin.copy_ #[27,27] 3 #[.slice (some ⟨W.heap.size,(k+1) * 2,none⟩) (n+1-(k+1)) (G-(k+1)),.slice (some ⟨g,k * 2,none⟩) (n-k) (cap-k)]).run Tryz.prog ((W.drew.alloc (.cells R1 38)).setRow W.heap.size R2).drew=.ok (.int .i64 ((l.length-k:Nat):Int)) (((W.drew.alloc (.cells R1 38)).setRow W.heap.size R2).drew.setRow W.heap.size R3) at q3
 have e1:((k:Int) == (n:Int))=false:=by rw [beq_eq_false_iff_ne]; omega
 have e2:decide ((cap:Int)<(n:Int)+1)=true:=by simp; omega
 have hGn:n+1≤G:=by omega
 clear hn
 generalize W.heap.size=N at *
 generalize W.drew.alloc (.cells R1 38)=W1 at *
 generalize W1.setRow N R2=W2 at *
 go_enter Tryz.func129,Tryz.ntmps129
 go_wp2_with (first | (at_builtin; refine wpList_append_run2 rfl _ _ 27 3 rfl rfl rfl a1 ?_) | (at_builtin; refine wpList_copy_run rfl _ _ 27 rfl rfl rfl q2 ?_) | fail)
 clear a1 q2 s0 s1 s2 s3
 have hw1:IntKind.i64.wrap ((k:Int)+1)=(k:Int)+1:=by rw [IntKind.wrap_i64]; omega
 have hb1:(0:Int)≤(k:Int)+1:=by omega
 have hb0:(k:Int)+1≤(n:Int)+1:=by omega
 have htn:((k:Int)+1).toNat=k+1:=by omega
 have hb2:¬ (G=k+1):=by omega
 have hb3:(k:Int)≤(n:Int):=by omega
 have hb4:¬ (cap=k):=by omega
 have h81:n+1-(k+1)=n-k:=by omega
 rw [h81] at q3
 clear h81
 go_region_law (refine step_copy_run rfl (.tmp 50) (.tmp 53) 27 rfl (v:=.slice (some ⟨N,(k+1) * 2,none⟩) (n-k) (G-(k+1))) (xv:=.slice (some ⟨g,k * 2,none⟩) (n-k) (cap-k)) (by simp [Act.eval,Act.put]) (by simp [Act.eval,Act.put]) q3 ?_)
 all_goals simp only [Exit.then]
 all_goals apply_assumption
 go_wp2
 go_ret
 exact Q.out
theorem insert_anyJ (B:Nat) (v:Value) (l:List XID) (k:Nat) (c:XID) (b:Nat) (W:World) (ho:OwnJ W B v l) (hx:Box W b (cellsJ c).toArray 38) (hne:v.ownBlock≠some b) (hk:k≤l.length) (hl:l.length≤900) (hB:B≤W.heap.size) :
  Calls Tryz.prog 129 #[v,.int .i64 k,.slice (some ⟨b,0,none⟩) 1 1] W (InsQJ B l k c v W):=by
 rcases Nat.lt_or_ge k l.length with h|h
 ·rcases own_open ho with⟨_,h2⟩|⟨g,cap,cur,rfl,h1,h2,h3,h4,h5,h6⟩
  ·rw [h2] at h; simp at h
  ·rcases Nat.lt_or_ge cap (l.length+1) with h7|h7
   ·exact insert_growJ B g _ cap cur l k c b W rfl h2 h4 h3 h6 hx h h7 hl hB
   ·exact insert_shiftJ B g _ cap cur l k c b W rfl h1 h2 h4 h5 h6 hx (fun e=>hne (by simp [Value.ownBlock,e])) h h7 hl
 ·obtain rfl:k=l.length:=by omega
  exact insert_endJ B v l c b W ho hx hl hB
theorem row_boxD {W:World} {b:Nat} {c:XAd} (h:Box W b (cellsD c).toArray 41):RowD W (.slice (some ⟨b,0,none⟩) 1 1) [c] :=
 Or.inr ⟨⟨b,0,none⟩,1,rfl,by simp,by decide,box_one h (by simp [ED])⟩
def InsQD (B:Nat) (l:List XAd) (k:Nat) (c:XAd) (vv:Value) (W:World) (e:Ending) (w':World):Prop:=∃ v',e=.returned v'∧OwnD w' B v' (l.take k++c::l.drop k)∧Below B W w'∧(∀ j,j<W.heap.size→some j≠vv.ownBlock→w'.heap[j]?=W.heap[j]?)
theorem insert_endD (B:Nat) (v:Value) (l:List XAd) (c:XAd) (b:Nat) (W:World) (ho:OwnD W B v l) (hx:Box W b (cellsD c).toArray 41) (hl:l.length≤900) (hB:B≤W.heap.size) :
  Calls Tryz.prog 128 #[v,.int .i64 (l.length:Nat),.slice (some ⟨b,0,none⟩) 1 1] W (InsQD B l l.length c v W):=by
 obtain⟨v',w',hr,ho2,hg⟩:=app_row okD B ho (row_boxD hx) (by omega) (by simp) hB 26
 have hr:(Builtin.append_ #[26,26] 26 #[v,.slice (some ⟨b,0,none⟩) 1 1]).run Tryz.prog W=.ok v' w':=hr
 have Q:=Lib.hid (show InsQD B l l.length c v W (.returned v') w' from ⟨v',rfl,by rw [List.take_of_length_le (Nat.le_refl _),List.drop_of_length_le (Nat.le_refl _)]; exact ho2,(Below.refl B W).grown hg hB (fun j hj=>(ho.lt j hj).1),fun j hj hne=>hg.block j hj hne⟩)
 obtain⟨sx,hs,_⟩:=row_hi okD (Row.of_own ho) l.length (Nat.le_refl _)
 have hs:∀ w,(Instr.sliceAt 26 v (some (.int .i64 l.length)) none none).run Tryz.prog w=.ok sx w:=hs
 obtain⟨ao,ac,rfl⟩:=(Row.of_own ho).len
 clear ho ho2 hg
 generalize hn:l.length=n at *
 clear hn
 go_enter Tryz.func128,Tryz.ntmps128
 go_wp2_with (first | (at_builtin; refine wpList_append_run rfl _ _ 26 rfl rfl rfl hr ?_) | fail)
 go_ret
 exact Q.out
theorem no_overD (w:World) (g b k la lb cb:Nat) (cur cs:Array Value) (hb:Box w b cs 41) (hg:Box w g cur 41) (hne:b≠g) (h0:0<cur.size):(callFunc 153 #[.slice (some ⟨b,0,none⟩) la 1,.slice (some ⟨g,k,none⟩) lb cb]).run Tryz.prog w=.ok (.value (.bool false)) w:=by
 rw [run_callFunc_extern Tryz.func153 (by kernel_rfl) (by kernel_rfl) (by kernel_rfl) (e:=Extern.SlicesOverlaps.overlaps #[26,26] #[4]) (by kernel_rfl),
  Lib.run_overlaps_apart w 26 4 41 Tryz.underlying26 4 Tryz.sizeOf41 ⟨b,0,none⟩ ⟨g,k,none⟩ la 1 lb cb hne 41 41 cs.size cur.size hb.shape hg.shape (by omega) (hb.fr 0) (hb.fr _)]
 rfl
theorem insert_shiftD (B g n cap:Nat) (cur:Array Value) (l:List XAd) (k:Nat) (c:XAd) (b:Nat) (W:World) (hn:n=l.length) (hBg:B≤g) (hg:Box W g cur 41) (hcm:cap≤maxLen) (hsz:cur.size=cap * 4) (ht:cur.toList.take (n * 4)=flat ED l) (hx:Box W b (cellsD c).toArray 41) (hne:b≠g) (hk:k<n) (hroom:n+1≤cap) (hl:n≤900) :
  Calls Tryz.prog 128 #[.slice (some ⟨g,0,none⟩) n cap,.int .i64 k,.slice (some ⟨b,0,none⟩) 1 1] W (InsQD B l k c (.slice (some ⟨g,0,none⟩) n cap) W):=by
 obtain⟨R1,R2,r1,r2,ow⟩:=shift_mid (E:=ED) (l:=l) (k:=k) (cap:=cap) (cur:=cur) (cs:=(cellsD c).toArray) (c:=c) okD (by omega) (by omega) hsz (by rw [← hn]; exact ht) g b hne
 have hov:=fun lb cb=>no_overD W g b ((k+1) * 4) 1 lb cb cur (cellsD c).toArray hx hg hne (by omega)
 have s0:=cut_hi (E:=ED) okD g k n cap (by omega) (by omega)
 have s1:=slice_lo (E:=ED) okD ⟨g,0,none⟩ (n+1) n cap (by omega)
 have s2:=cut_hi (E:=ED) okD g (k+1) (n+1) cap (by omega) (by omega)
 have s3:=cut_hi (E:=ED) okD g k (n+1) cap (by omega) (by omega)
 have q1:=r1 W.drew 3 (n+1-(k+1)) (cap-(k+1)) (n+1-k) (cap-k) hg (by omega)
 have q2:=r2 (W.drew.setRow g R1) 3 (n+1-k) (cap-k) (Box.set (show Box W.drew g cur 41 from hg) R1) (Box.other (show Box W.drew b _ 41 from hx) hne R1) rfl (by omega)
 have Q:=Lib.hid (show InsQD B l k c (.slice (some ⟨g,0,none⟩) n cap) W (.returned (.slice (some ⟨g,0,none⟩) (n+1) cap)) ((W.drew.setRow g R1).setRow g R2) from ⟨_,rfl,by rw [hn]; exact ow _ B hBg hcm (Box.set (Box.set (show Box W.drew g cur 41 from hg) R1) R2),below_setRow (below_setRow (Below.refl B W).drew hBg _) hBg _,fun j hj hne=>(setRow_other _ g j _ (fun e=>hne (by rw [e]; rfl))).trans (setRow_other _ g j _ (fun e=>hne (by rw [e]; rfl)))⟩)
 clear r1 r2 ow hg ht hx hsz hBg hcm
 change ∀ w,(Instr.sliceAt 26 (.slice (some ⟨g,0,none⟩) n cap) (some (.int .i64 k)) none none).run Tryz.prog w=.ok (.slice (some ⟨g,k * 4,none⟩) (n-k) (cap-k)) w at s0
 change ∀ w,(Instr.sliceAt 26 (.slice (some ⟨g,0,none⟩) n cap) none (some (.int .i64 ((n:Int)+1))) none).run Tryz.prog w=.ok (.slice (some ⟨g,0,none⟩) (n+1) cap) w at s1
 change ∀ w,(Instr.sliceAt 26 (.slice (some ⟨g,0,none⟩) (n+1) cap) (some (.int .i64 ((k:Int)+1))) none none).run Tryz.prog w=.ok (.slice (some ⟨g,(k+1) * 4,none⟩) (n+1-(k+1)) (cap-(k+1))) w at s2
 change ∀ w,(Instr.sliceAt 26 (.slice (some ⟨g,0,none⟩) (n+1) cap) (some (.int .i64 k)) none none).run Tryz.prog w=.ok (.slice (some ⟨g,k * 4,none⟩) (n+1-k) (cap-k)) w at s3
 have e1:((k:Int) == (n:Int))=false:=by rw [beq_eq_false_iff_ne]; omega
 have e2:decide ((cap:Int)<(n:Int)+1)=false:=by simp; omega
 change (Builtin.copy_ #[26,26] 3 #[.slice (some ⟨g,(k+1) * 4,none⟩) (n+1-(k+1)) (cap-(k+1)),.slice (some ⟨g,k * 4,none⟩) (n+1-k) (cap-k)]).run Tryz.prog W.drew=.ok (.int .i64 ((l.length-k:Nat):Int)) (W.drew.setRow g R1) at q1
 change (Builtin.copy_ #[26,26] 3 #[.slice (some ⟨g,k * 4,none⟩) (n+1-k) (cap-k),.slice (some ⟨b,0,none⟩) 1 1]).run Tryz.prog (W.drew.setRow g R1)=.ok (.int .i64 1) ((W.drew.setRow g R1).setRow g R2) at q2
 clear hn
 go_enter Tryz.func128,Tryz.ntmps128
 go_wp2_with (first | (simp only [hov]) | fail)
 clear hov s0 s1 s2 s3
 have hw1:IntKind.i64.wrap ((k:Int)+1)=(k:Int)+1:=by rw [IntKind.wrap_i64]; omega
 have hb1:(0:Int)≤(k:Int)+1:=by omega
 have hb0:(k:Int)+1≤(n:Int)+1:=by omega
 have htn:((k:Int)+1).toNat=k+1:=by omega
 have hb2:¬ (cap=k+1):=by omega
 have hb3:(k:Int)≤(n:Int)+1:=by omega
 have hb4:¬ (cap=k):=by omega
 have h81:n+1-(k+1)=n-k:=by omega
 rw [h81] at q1
 clear h81
 go_region_law (refine step_copy_run rfl (.tmp 73) (.tmp 76) 26 rfl (v:=.slice (some ⟨g,(k+1) * 4,none⟩) (n-k) (cap-(k+1))) (xv:=.slice (some ⟨g,k * 4,none⟩) (n+1-k) (cap-k)) (by simp [Act.eval,Act.put]) (by simp [Act.eval,Act.put]) q1 ?_)
 all_goals simp only [Exit.then]
 all_goals apply_assumption
 clear q1 hw1 hb1 hb0 htn hb2 hb3 hb4
 have s3:=cut_hi (E:=ED) okD g k (n+1) cap (by omega) (by omega)
 change ∀ w,(Instr.sliceAt 26 (.slice (some ⟨g,0,none⟩) (n+1) cap) (some (.int .i64 k)) none none).run Tryz.prog w=.ok (.slice (some ⟨g,k * 4,none⟩) (n+1-k) (cap-k)) w at s3
 go_wp2_with (first | (at_builtin; refine wpList_copy_run rfl _ _ 26 rfl rfl rfl q2 ?_) | fail)
 go_ret
 exact Q.out
theorem insert_growD (B g n cap:Nat) (cur:Array Value) (l:List XAd) (k:Nat) (c:XAd) (b:Nat) (W:World) (hn:n=l.length) (hg:Box W g cur 41) (hcm:cap≤maxLen) (hnc:n≤cap) (ht:cur.toList.take (n * 4)=flat ED l) (hx:Box W b (cellsD c).toArray 41) (hk:k<n) (hroom:cap<n+1) (hl:n≤900) (hB:B≤W.heap.size) :
  Calls Tryz.prog 128 #[.slice (some ⟨g,0,none⟩) n cap,.int .i64 k,.slice (some ⟨b,0,none⟩) 1 1] W (InsQD B l k c (.slice (some ⟨g,0,none⟩) n cap) W):=by
 have hgw:=hg.lt
 have hbw:=hx.lt
 obtain⟨G,R1,R2,R3,hG1,hG2,r1,r2,r3,ow⟩:=grow_mid (E:=ED) (l:=l) (k:=k) (cap:=cap) (cur:=cur) (cs:=(cellsD c).toArray) (c:=c) okD 3 Tryz.underlying3 (by omega) (by omega) (by omega) (by omega) (by rw [← hn]; exact ht) W g b hg hbw
 unfold maxLen at hcm hG2
 have s0:=cut_hi (E:=ED) okD g k n cap (by omega) (by omega)
 have s1:=slice_lo (E:=ED) okD ⟨g,0,none⟩ k n cap (by omega)
 have s2:=cut_hi (E:=ED) okD W.heap.size k (n+1) G (by omega) (by omega)
 have s3:=cut_hi (E:=ED) okD W.heap.size (k+1) (n+1) G (by omega) (by omega)
 have a1:=r1 26
 have n1:=box_new W.drew R1 41
 have bl:W.drew.heap.size=W.heap.size:=rfl
 rw [bl] at n1
 have g1:Box (W.drew.alloc (.cells R1 41)) g cur 41:=Box.more (show Box W.drew g cur 41 from hg) _
 have x1:Box (W.drew.alloc (.cells R1 41)) b (cellsD c).toArray 41:=Box.more (show Box W.drew b _ 41 from hx) _
 have q2:=r2 (W.drew.alloc (.cells R1 41)) 3 (n+1-k) (G-k) n1 x1 rfl (by omega)
 have q3:=r3 ((W.drew.alloc (.cells R1 41)).setRow W.heap.size R2).drew 3 (n+1-(k+1)) (G-(k+1)) (n-k) (cap-k) (Box.set n1 R2) (Box.other g1 (by omega) R2) (by omega)
 have Q:=Lib.hid (show InsQD B l k c (.slice (some ⟨g,0,none⟩) n cap) W (.returned (.slice (some ⟨W.heap.size,0,none⟩) (n+1) G)) (((W.drew.alloc (.cells R1 41)).setRow W.heap.size R2).drew.setRow W.heap.size R3) from ⟨_,rfl,by rw [hn]; exact ow _ B hB (Box.set (Box.set n1 R2) R3),below_setRow (below_setRow ((Below.refl B W).drew.alloc hB _) hB _).drew hB _,fun j hj _=>(setRow_other _ W.heap.size j _ (by omega)).trans ((setRow_other _ W.heap.size j _ (by omega)).trans (Array.getElem?_push_lt hj |>.trans (Array.getElem?_eq_getElem hj).symm))⟩)
 have l1:l.length+1=n+1:=by rw [hn]
 rw [l1,← hn] at a1
 clear r1 r2 r3 ow hg ht hx g1 x1 n1 bl l1
 change ∀ w,(Instr.sliceAt 26 (.slice (some ⟨g,0,none⟩) n cap) (some (.int .i64 k)) none none).run Tryz.prog w=.ok (.slice (some ⟨g,k * 4,none⟩) (n-k) (cap-k)) w at s0
 change ∀ w,(Instr.sliceAt 26 (.slice (some ⟨g,0,none⟩) n cap) none (some (.int .i64 k)) none).run Tryz.prog w=.ok (.slice (some ⟨g,0,none⟩) k cap) w at s1
 change ∀ w,(Instr.sliceAt 26 (.slice (some ⟨W.heap.size,0,none⟩) (n+1) G) (some (.int .i64 k)) none none).run Tryz.prog w=.ok (.slice (some ⟨W.heap.size,k * 4,none⟩) (n+1-k) (G-k)) w at s2
 change ∀ w,(Instr.sliceAt 26 (.slice (some ⟨W.heap.size,0,none⟩) (n+1) G) (some (.int .i64 ((k:Int)+1))) none none).run Tryz.prog w=.ok (.slice (some ⟨W.heap.size,(k+1) * 4,none⟩) (n+1-(k+1)) (G-(k+1))) w at s3
 change (Builtin.append_ #[26,3] 26 #[.slice (some ⟨g,0,none⟩) k cap,.int .i64 ((n:Int)+1-k)]).run Tryz.prog W=.ok (.slice (some ⟨W.heap.size,0,none⟩) (n+1) G) (W.drew.alloc (.cells R1 41)) at a1
 change (Builtin.copy_ #[26,26] 3 #[.slice (some ⟨W.heap.size,k * 4,none⟩) (n+1-k) (G-k),.slice (some ⟨b,0,none⟩) 1 1]).run Tryz.prog (W.drew.alloc (.cells R1 41))=.ok (.int .i64 1) ((W.drew.alloc (.cells R1 41)).setRow W.heap.size R2) at q2
 change (Builtin.copy_ #[26,26] 3 #[.slice (some ⟨W.heap.size,(k+1) * 4,none⟩) (n+1-(k+1)) (G-(k+1)),.slice (some ⟨g,k * 4,none⟩) (n-k) (cap-k)]).run Tryz.prog ((W.drew.alloc (.cells R1 41)).setRow W.heap.size R2).drew=.ok (.int .i64 ((l.length-k:Nat):Int)) (((W.drew.alloc (.cells R1 41)).setRow W.heap.size R2).drew.setRow W.heap.size R3) at q3
 have e1:((k:Int) == (n:Int))=false:=by rw [beq_eq_false_iff_ne]; omega
 have e2:decide ((cap:Int)<(n:Int)+1)=true:=by simp; omega
 have hGn:n+1≤G:=by omega
 clear hn
 generalize W.heap.size=N at *
 generalize W.drew.alloc (.cells R1 41)=W1 at *
 generalize W1.setRow N R2=W2 at *
 go_enter Tryz.func128,Tryz.ntmps128
 go_wp2_with (first | (at_builtin; refine wpList_append_run2 rfl _ _ 26 3 rfl rfl rfl a1 ?_) | (at_builtin; refine wpList_copy_run rfl _ _ 26 rfl rfl rfl q2 ?_) | fail)
 clear a1 q2 s0 s1 s2 s3
 have hw1:IntKind.i64.wrap ((k:Int)+1)=(k:Int)+1:=by rw [IntKind.wrap_i64]; omega
 have hb1:(0:Int)≤(k:Int)+1:=by omega
 have hb0:(k:Int)+1≤(n:Int)+1:=by omega
 have htn:((k:Int)+1).toNat=k+1:=by omega
 have hb2:¬ (G=k+1):=by omega
 have hb3:(k:Int)≤(n:Int):=by omega
 have hb4:¬ (cap=k):=by omega
 have h81:n+1-(k+1)=n-k:=by omega
 rw [h81] at q3
 clear h81
 go_region_law (refine step_copy_run rfl (.tmp 50) (.tmp 53) 26 rfl (v:=.slice (some ⟨N,(k+1) * 4,none⟩) (n-k) (G-(k+1))) (xv:=.slice (some ⟨g,k * 4,none⟩) (n-k) (cap-k)) (by simp [Act.eval,Act.put]) (by simp [Act.eval,Act.put]) q3 ?_)
 all_goals simp only [Exit.then]
 all_goals apply_assumption
 go_wp2
 go_ret
 exact Q.out
theorem insert_anyD (B:Nat) (v:Value) (l:List XAd) (k:Nat) (c:XAd) (b:Nat) (W:World) (ho:OwnD W B v l) (hx:Box W b (cellsD c).toArray 41) (hne:v.ownBlock≠some b) (hk:k≤l.length) (hl:l.length≤900) (hB:B≤W.heap.size) :
  Calls Tryz.prog 128 #[v,.int .i64 k,.slice (some ⟨b,0,none⟩) 1 1] W (InsQD B l k c v W):=by
 rcases Nat.lt_or_ge k l.length with h|h
 ·rcases own_open ho with⟨_,h2⟩|⟨g,cap,cur,rfl,h1,h2,h3,h4,h5,h6⟩
  ·rw [h2] at h; simp at h
  ·rcases Nat.lt_or_ge cap (l.length+1) with h7|h7
   ·exact insert_growD B g _ cap cur l k c b W rfl h2 h4 h3 h6 hx h h7 hl hB
   ·exact insert_shiftD B g _ cap cur l k c b W rfl h1 h2 h4 h5 h6 hx (fun e=>hne (by simp [Value.ownBlock,e])) h h7 hl
 ·obtain rfl:k=l.length:=by omega
  exact insert_endD B v l c b W ho hx hl hB
end Go.Proofs.YtncogjpmboglhaaGreat.Av
