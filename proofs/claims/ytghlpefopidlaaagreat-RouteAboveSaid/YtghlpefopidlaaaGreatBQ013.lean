/-
  slices.Insert of one. Conditions as told.
-/
import Derived.Test.YtghlpefopidlaaaGreatBQ010
set_option maxRecDepth 100000
set_option maxHeartbeats 64000000
open _root_.Go renaming World->Y,Value->aj,Calls->aB
open Go.Addr renaming add->X
open Go.Builtin renaming copy_->Z,append_->aA
open Go.Instr renaming sliceAt->O
open Go.IntKind renaming i64->V,wrap_i64->ay
open Go.Obj renaming cells->ah
open Go.Proofs.Tryz renaming prog->K,ntmps104->ak,func104->au
open Go.Value renaming slice->D,int->U
open _root_.Option renaming none->J,some->L
namespace Go.Proofs.YtghlpefopidlaaaGreat
namespace Av
open Go.RowKit Rw YtghlpefopidlaaaGreat.Nm Pr Bk
theorem Lr {W:Y} {b:Nat} {c:jS} (h:dG W b (cellsD c).toArray 36):Er W (D (L ⟨b,0,J⟩) 1 1) [c] :=
 Or.inr ⟨⟨b,0,J⟩,1,rfl,by simp,by decide,nS h (by simp [ED])⟩
def vP (B:Nat) (l:List jS) (k:Nat) (c:jS) (vv:aj) (W:Y) (e:Ending) (w':Y):Prop:=∃ v',e=.returned v'/\qJ w' B v' (l.take k++c::l.drop k)/\Below B W w'/\(∀ j,j<W.heap.size->L j≠vv.ownBlock->w'.heap[j]?=W.heap[j]?)
theorem Cq (B:Nat) (v:aj) (l:List jS) (c:jS) (b:Nat) (W:Y) (ho:qJ W B v l) (hx:dG W b (cellsD c).toArray 36) (hl:l.length<=900) (hB:B<=W.heap.size) :
  aB K 104 #[v,U V (l.length:Nat),D (L ⟨b,0,J⟩) 1 1] W (vP B l l.length c v W):=by
 obtain⟨v',w',hr,ho2,hg⟩:=kr okD B ho (Lr hx) (by omega) (by simp) hB 25;have hr:(aA #[25,25] 25 #[v,D (L ⟨b,0,J⟩) 1 1]).run K W=.ok v' w':=hr;have Q:=Lib.hid (show vP B l l.length c v W (.returned v') w' from ⟨v',rfl,by rw [List.take_of_length_le (Nat.le_refl _),List.drop_of_length_le (Nat.le_refl _)]; exact ho2,(Below.refl B W).grown hg hB (fun j hj=>(ho.lt j hj).1),fun j hj hne=>hg.block j hj hne⟩);obtain⟨sx,hs,_⟩:=uU okD (Row.dH ho) l.length (Nat.le_refl _);have hs:∀ w,(O 25 v (L (U V l.length)) J J).run K w=.ok sx w:=hs;obtain⟨ao,ac,rfl⟩:=(Row.dH ho).len;clear ho ho2 hg;generalize hn:l.length=n at *;clear hn;go_enter au,ak;go_wp2_with (first | (at_builtin; refine wpList_append_run rfl _ _ 25 rfl rfl rfl hr ?_) | fail);go_ret;exact Q.out
theorem Ls (w:Y) (g b k la lb cb:Nat) (cur cs:Array aj) (hb:dG w b cs 36) (hg:dG w g cur 36) (hne:b≠g) (h0:0<cur.size):(callFunc 140 #[D (L ⟨b,0,J⟩) la 1,D (L ⟨g,k,J⟩) lb cb]).run K w=.ok (.value (.bool false)) w:=by
 rw [run_callFunc_extern Tryz.func140 (by kernel_rfl) (by kernel_rfl) (by kernel_rfl) (e:=Extern.SlicesOverlaps.overlaps #[25,25] #[4]) (by kernel_rfl),
  Lib.run_overlaps_apart w 25 4 36 Tryz.underlying25 4 Tryz.sizeOf36 ⟨b,0,J⟩ ⟨g,k,J⟩ la 1 lb cb hne 36 36 cs.size cur.size hb.shape hg.shape (by omega) (hb.fr 0) (hb.fr _)]
 rfl
theorem xS (B g n cap:Nat) (cur:Array aj) (l:List jS) (k:Nat) (c:jS) (b:Nat) (W:Y) (hn:n=l.length) (hBg:B<=g) (hg:dG W g cur 36) (hcm:cap<=maxLen) (hsz:cur.size=cap * 4) (ht:cur.toList.take (n * 4)=flat ED l) (hx:dG W b (cellsD c).toArray 36) (hne:b≠g) (hk:k<n) (hroom:n+1<=cap) (hl:n<=900) :
  aB K 104 #[D (L ⟨g,0,J⟩) n cap,U V k,D (L ⟨b,0,J⟩) 1 1] W (vP B l k c (D (L ⟨g,0,J⟩) n cap) W):=by
 obtain⟨R1,R2,r1,r2,ow⟩:=nk (E:=ED) (l:=l) (k:=k) (cap:=cap) (cur:=cur) (cs:=(cellsD c).toArray) (c:=c) okD (by omega) (by omega) hsz (by rw [<- hn]; exact ht) g b hne;have hov:=fun lb cb=>Ls W g b ((k+1) * 4) 1 lb cb cur (cellsD c).toArray hx hg hne (by omega);have s0:=fE (E:=ED) okD g k n cap (by omega) (by omega);have s1:=iQ (E:=ED) okD ⟨g,0,J⟩ (n+1) n cap (by omega);have s2:=fE (E:=ED) okD g (k+1) (n+1) cap (by omega) (by omega);have s3:=fE (E:=ED) okD g k (n+1) cap (by omega) (by omega);have q1:=r1 W.drew 3 (n+1-(k+1)) (cap-(k+1)) (n+1-k) (cap-k) hg (by omega);have q2:=r2 (W.drew.setRow g R1) 3 (n+1-k) (cap-k) (dG.set (show dG W.drew g cur 36 from hg) R1) (dG.other (show dG W.drew b _ 36 from hx) hne R1) rfl (by omega);have Q:=Lib.hid (show vP B l k c (D (L ⟨g,0,J⟩) n cap) W (.returned (D (L ⟨g,0,J⟩) (n+1) cap)) ((W.drew.setRow g R1).setRow g R2) from ⟨_,rfl,by rw [hn]; exact ow _ B hBg hcm (dG.set (dG.set (show dG W.drew g cur 36 from hg) R1) R2),below_setRow (below_setRow (Below.refl B W).drew hBg _) hBg _,fun j hj hne=>(setRow_other _ g j _ (fun e=>hne (by rw [e]; rfl))).trans (setRow_other _ g j _ (fun e=>hne (by rw [e]; rfl)))⟩);clear r1 r2 ow hg ht hx hsz hBg hcm;change ∀ w,(O 25 (D (L ⟨g,0,J⟩) n cap) (L (U V k)) J J).run K w=.ok (D (L ⟨g,k * 4,J⟩) (n-k) (cap-k)) w at s0;change ∀ w,(O 25 (D (L ⟨g,0,J⟩) n cap) J (L (U V ((n:Int)+1))) J).run K w=.ok (D (L ⟨g,0,J⟩) (n+1) cap) w at s1;change ∀ w,(O 25 (D (L ⟨g,0,J⟩) (n+1) cap) (L (U V ((k:Int)+1))) J J).run K w=.ok (D (L ⟨g,(k+1) * 4,J⟩) (n+1-(k+1)) (cap-(k+1))) w at s2;change ∀ w,(O 25 (D (L ⟨g,0,J⟩) (n+1) cap) (L (U V k)) J J).run K w=.ok (D (L ⟨g,k * 4,J⟩) (n+1-k) (cap-k)) w at s3;have e1:((k:Int) == (n:Int))=false:=by rw [beq_eq_false_iff_ne]; omega
 have e2:decide ((cap:Int)<(n:Int)+1)=false:=by simp; omega
 change (Z #[25,25] 3 #[D (L ⟨g,(k+1) * 4,J⟩) (n+1-(k+1)) (cap-(k+1)),D (L ⟨g,k * 4,J⟩) (n+1-k) (cap-k)]).run K W.drew=.ok (U V ((l.length-k:Nat):Int)) (W.drew.setRow g R1) at q1;change (Z #[25,25] 3 #[D (L ⟨g,k * 4,J⟩) (n+1-k) (cap-k),D (L ⟨b,0,J⟩) 1 1]).run K (W.drew.setRow g R1)=.ok (U V 1) ((W.drew.setRow g R1).setRow g R2) at q2;clear hn;go_enter au,ak;go_wp2_with (first | (simp only [hov]) | fail);clear hov s0 s1 s2 s3;have hw1:IntKind.i64.wrap ((k:Int)+1)=(k:Int)+1:=by rw [ay]; omega
 have hb1:(0:Int)<=(k:Int)+1:=by omega
 have hb0:(k:Int)+1<=(n:Int)+1:=by omega
 have htn:((k:Int)+1).toNat=k+1:=by omega
 have hb2:¬ (cap=k+1):=by omega
 have hb3:(k:Int)<=(n:Int)+1:=by omega
 have hb4:¬ (cap=k):=by omega
 have h81:n+1-(k+1)=n-k:=by omega
 rw [h81] at q1;clear h81
 go_region_law (refine gq rfl (.tmp 73) (.tmp 76) 25 rfl (v:=D (L ⟨g,(k+1) * 4,J⟩) (n-k) (cap-(k+1))) (xv:=D (L ⟨g,k * 4,J⟩) (n+1-k) (cap-k)) (by simp [Act.eval,Act.put]) (by simp [Act.eval,Act.put]) q1 ?_)
 all_goals simp only [Exit.then]
 all_goals apply_assumption
 clear q1 hw1 hb1 hb0 htn hb2 hb3 hb4;have s3:=fE (E:=ED) okD g k (n+1) cap (by omega) (by omega);change ∀ w,(O 25 (D (L ⟨g,0,J⟩) (n+1) cap) (L (U V k)) J J).run K w=.ok (D (L ⟨g,k * 4,J⟩) (n+1-k) (cap-k)) w at s3;go_wp2_with (first | (at_builtin; refine wpList_copy_run rfl _ _ 25 rfl rfl rfl q2 ?_) | fail);go_ret;exact Q.out
theorem Ah (B g n cap:Nat) (cur:Array aj) (l:List jS) (k:Nat) (c:jS) (b:Nat) (W:Y) (hn:n=l.length) (hg:dG W g cur 36) (hcm:cap<=maxLen) (hnc:n<=cap) (ht:cur.toList.take (n * 4)=flat ED l) (hx:dG W b (cellsD c).toArray 36) (hk:k<n) (hroom:cap<n+1) (hl:n<=900) (hB:B<=W.heap.size) :
  aB K 104 #[D (L ⟨g,0,J⟩) n cap,U V k,D (L ⟨b,0,J⟩) 1 1] W (vP B l k c (D (L ⟨g,0,J⟩) n cap) W):=by
 have hgw:=hg.lt;have hbw:=hx.lt;obtain⟨G,R1,R2,R3,hG1,hG2,r1,r2,r3,ow⟩:=oN (E:=ED) (l:=l) (k:=k) (cap:=cap) (cur:=cur) (cs:=(cellsD c).toArray) (c:=c) okD 3 Tryz.underlying3 (by omega) (by omega) (by omega) (by omega) (by rw [<- hn]; exact ht) W g b hg hbw;unfold maxLen at hcm hG2;have s0:=fE (E:=ED) okD g k n cap (by omega) (by omega);have s1:=iQ (E:=ED) okD ⟨g,0,J⟩ k n cap (by omega);have s2:=fE (E:=ED) okD W.heap.size k (n+1) G (by omega) (by omega);have s3:=fE (E:=ED) okD W.heap.size (k+1) (n+1) G (by omega) (by omega);have a1:=r1 25;have n1:=dO W.drew R1 36;have bl:W.drew.heap.size=W.heap.size:=rfl;rw [bl] at n1;have g1:dG (W.drew.alloc (ah R1 36)) g cur 36:=dG.more (show dG W.drew g cur 36 from hg) _;have x1:dG (W.drew.alloc (ah R1 36)) b (cellsD c).toArray 36:=dG.more (show dG W.drew b _ 36 from hx) _;have q2:=r2 (W.drew.alloc (ah R1 36)) 3 (n+1-k) (G-k) n1 x1 rfl (by omega);have q3:=r3 ((W.drew.alloc (ah R1 36)).setRow W.heap.size R2).drew 3 (n+1-(k+1)) (G-(k+1)) (n-k) (cap-k) (dG.set n1 R2) (dG.other g1 (by omega) R2) (by omega);have Q:=Lib.hid (show vP B l k c (D (L ⟨g,0,J⟩) n cap) W (.returned (D (L ⟨W.heap.size,0,J⟩) (n+1) G)) (((W.drew.alloc (ah R1 36)).setRow W.heap.size R2).drew.setRow W.heap.size R3) from ⟨_,rfl,by rw [hn]; exact ow _ B hB (dG.set (dG.set n1 R2) R3),below_setRow (below_setRow ((Below.refl B W).drew.alloc hB _) hB _).drew hB _,fun j hj _=>(setRow_other _ W.heap.size j _ (by omega)).trans ((setRow_other _ W.heap.size j _ (by omega)).trans (Array.getElem?_push_lt hj |>.trans (Array.getElem?_eq_getElem hj).symm))⟩);have l1:l.length+1=n+1:=by rw [hn]
 rw [l1,<- hn] at a1;clear r1 r2 r3 ow hg ht hx g1 x1 n1 bl l1;change ∀ w,(O 25 (D (L ⟨g,0,J⟩) n cap) (L (U V k)) J J).run K w=.ok (D (L ⟨g,k * 4,J⟩) (n-k) (cap-k)) w at s0;change ∀ w,(O 25 (D (L ⟨g,0,J⟩) n cap) J (L (U V k)) J).run K w=.ok (D (L ⟨g,0,J⟩) k cap) w at s1;change ∀ w,(O 25 (D (L ⟨W.heap.size,0,J⟩) (n+1) G) (L (U V k)) J J).run K w=.ok (D (L ⟨W.heap.size,k * 4,J⟩) (n+1-k) (G-k)) w at s2;change ∀ w,(O 25 (D (L ⟨W.heap.size,0,J⟩) (n+1) G) (L (U V ((k:Int)+1))) J J).run K w=.ok (D (L ⟨W.heap.size,(k+1) * 4,J⟩) (n+1-(k+1)) (G-(k+1))) w at s3;change (aA #[25,3] 25 #[D (L ⟨g,0,J⟩) k cap,U V ((n:Int)+1-k)]).run K W=.ok (D (L ⟨W.heap.size,0,J⟩) (n+1) G) (W.drew.alloc (ah R1 36)) at a1;change (Z #[25,25] 3 #[D (L ⟨W.heap.size,k * 4,J⟩) (n+1-k) (G-k),D (L ⟨b,0,J⟩) 1 1]).run K (W.drew.alloc (ah R1 36))=.ok (U V 1) ((W.drew.alloc (ah R1 36)).setRow W.heap.size R2) at q2;change (Z #[25,25] 3 #[D (L ⟨W.heap.size,(k+1) * 4,J⟩) (n+1-(k+1)) (G-(k+1)),D (L ⟨g,k * 4,J⟩) (n-k) (cap-k)]).run K ((W.drew.alloc (ah R1 36)).setRow W.heap.size R2).drew=.ok (U V ((l.length-k:Nat):Int)) (((W.drew.alloc (ah R1 36)).setRow W.heap.size R2).drew.setRow W.heap.size R3) at q3;have e1:((k:Int) == (n:Int))=false:=by rw [beq_eq_false_iff_ne]; omega
 have e2:decide ((cap:Int)<(n:Int)+1)=true:=by simp; omega
 have hGn:n+1<=G:=by omega
 clear hn;generalize W.heap.size=N at *;generalize W.drew.alloc (ah R1 36)=W1 at *;generalize W1.setRow N R2=W2 at *;go_enter au,ak;go_wp2_with (first | (at_builtin; refine gN rfl _ _ 25 3 rfl rfl rfl a1 ?_) | (at_builtin; refine wpList_copy_run rfl _ _ 25 rfl rfl rfl q2 ?_) | fail);clear a1 q2 s0 s1 s2 s3;have hw1:IntKind.i64.wrap ((k:Int)+1)=(k:Int)+1:=by rw [ay]; omega
 have hb1:(0:Int)<=(k:Int)+1:=by omega
 have hb0:(k:Int)+1<=(n:Int)+1:=by omega
 have htn:((k:Int)+1).toNat=k+1:=by omega
 have hb2:¬ (G=k+1):=by omega
 have hb3:(k:Int)<=(n:Int):=by omega
 have hb4:¬ (cap=k):=by omega
 have h81:n+1-(k+1)=n-k:=by omega
 rw [h81] at q3;clear h81
 go_region_law (refine gq rfl (.tmp 50) (.tmp 53) 25 rfl (v:=D (L ⟨N,(k+1) * 4,J⟩) (n-k) (G-(k+1))) (xv:=D (L ⟨g,k * 4,J⟩) (n-k) (cap-k)) (by simp [Act.eval,Act.put]) (by simp [Act.eval,Act.put]) q3 ?_)
 all_goals simp only [Exit.then]
 all_goals apply_assumption
 go_wp2;go_ret;exact Q.out
theorem Cr (B:Nat) (v:aj) (l:List jS) (k:Nat) (c:jS) (b:Nat) (W:Y) (ho:qJ W B v l) (hx:dG W b (cellsD c).toArray 36) (hne:v.ownBlock≠L b) (hk:k<=l.length) (hl:l.length<=900) (hB:B<=W.heap.size) :
  aB K 104 #[v,U V k,D (L ⟨b,0,J⟩) 1 1] W (vP B l k c v W):=by
 rcases Nat.lt_or_ge k l.length with h|h
 ·rcases eZ ho with⟨_,h2⟩|⟨g,cap,cur,rfl,h1,h2,h3,h4,h5,h6⟩
  ·rw [h2] at h; simp at h
  ·rcases Nat.lt_or_ge cap (l.length+1) with h7|h7
   ·exact Ah B g _ cap cur l k c b W rfl h2 h4 h3 h6 hx h h7 hl hB
   ·exact xS B g _ cap cur l k c b W rfl h1 h2 h4 h5 h6 hx (fun e=>hne (by simp [Value.ownBlock,e])) h h7 hl
 ·obtain rfl:k=l.length:=by omega
  exact Cq B v l c b W ho hx hl hB
end Av
namespace Bk
open Go.RowKit Go.Sort Rw YtghlpefopidlaaaGreat.Nm Pr
abbrev mY:=Int×Int×Int×Int×Int×Int×Sl×Sl
abbrev jY (x:mY):List aj:=[U V x.1,U V x.2.1,U V x.2.2.1,U V x.2.2.2.1,U V x.2.2.2.2.1,U V x.2.2.2.2.2.1,dQ x.2.2.2.2.2.2.1,dQ x.2.2.2.2.2.2.2]
abbrev Ct (x:mY):aj:=.agg #[U V x.1,U V x.2.1,U V x.2.2.1,U V x.2.2.2.1,U V x.2.2.2.2.1,U V x.2.2.2.2.2.1,dQ x.2.2.2.2.2.2.1,dQ x.2.2.2.2.2.2.2]
def EU:Ek mY:=⟨46,37,8,96,.agg #[U V 0,U V 0,U V 0,U V 0,U V 0,U V 0,D J 0 0,D J 0 0],Ct,jY⟩
theorem Wo:(Tryz.prog.info? 46).map (fun i=>(i.zero,i.size,i.bytes))=L (L (.agg #[U V 0,U V 0,U V 0,U V 0,U V 0,U V 0,D J 0 0,D J 0 0]),8,96):=by kernel_rfl
theorem Wp (w:Y) (p:Addr) (x:mY) (h:∀ j u,(jY x)[j]?=L u->w.cell? (p.add j)=L u):(Instr.loadAt 46 (.pointer (L p))).run K w=.ok (Ct x) w:=by
 have h0:=h 0 _ rfl;have h1:=h 1 _ rfl;have h2:=h 2 _ rfl;have h3:=h 3 _ rfl;have h4:=h 4 _ rfl;have h5:=h 5 _ rfl;have h6:=h 6 _ rfl;have h7:=h 7 _ rfl;simp [X] at h0 h1 h2 h3 h4 h5 h6 h7;simp [go_sem,h0,h1,h2,h3,h4,h5,h6,h7]
theorem Pq:EU.Ok where
 hu:=Tryz.underlying37
 info:=by
  have h:=Wo;cases hi:Tryz.prog.info? 46 with
  | none=>rw [hi] at h; cases h
  | some i =>
   rw [hi] at h;simp only [Option.map_some,Option.some.injEq,Prod.mk.injEq] at h;exact⟨i,hi,h.1,h.2.1,h.2.2⟩
 zs:=rfl
 len:=fun _=>rfl
 one:=fun x u hu=>by
  simp only [EU,jY,List.mem_cons,List.not_mem_nil,or_false] at hu;rcases hu with rfl|rfl|rfl|rfl|rfl|rfl|rfl|rfl <;> rfl
 pos:=by decide
 few:=by decide
 load:=fun w p x h=>Wp w p x h
abbrev Wq (W:Y) (v:aj) (l:List mY):Prop:=Row EU W v l
abbrev EP (W:Y) (B:Nat) (v:aj) (l:List mY):Prop:=Own EU W B v l
theorem Zj {W:Y} {v:aj} {l:List mY} {ao:Option Addr} {n c k:Nat} {x:mY} (h:Wq W v l) (hv:v=D ao n c) (hn:l.length=n) (hk:l[k]?=L x) :
  ∃ p:Addr,(∀ w,(Instr.indexAt 37 (D ao n c) (U V k)).run K w=.ok (.pointer (L p)) w)/\∀ w,Below W.heap.size W w->w.cell? p=L (U V x.1)/\w.cell? ⟨p.block,p.off+1,J⟩=L (U V x.2.1)/\w.cell? ⟨p.block,p.off+2,J⟩=L (U V x.2.2.1)/\w.cell? ⟨p.block,p.off+3,J⟩=L (U V x.2.2.2.1)/\w.cell? ⟨p.block,p.off+4,J⟩=L (U V x.2.2.2.2.1)/\w.cell? ⟨p.block,p.off+5,J⟩=L (U V x.2.2.2.2.2.1)/\w.cell? ⟨p.block,p.off+6,J⟩=L (dQ x.2.2.2.2.2.2.1)/\w.cell? ⟨p.block,p.off+7,J⟩=L (dQ x.2.2.2.2.2.2.2):=by
 obtain⟨p,h1,_,h2⟩:=qH Pq h hv hn hk;exact⟨p,h1,fun w hw=>⟨by simpa [X] using h2 w hw 0 _ rfl,by simpa [X] using h2 w hw 1 _ rfl,by simpa [X] using h2 w hw 2 _ rfl,by simpa [X] using h2 w hw 3 _ rfl,by simpa [X] using h2 w hw 4 _ rfl,by simpa [X] using h2 w hw 5 _ rfl,by simpa [X] using h2 w hw 6 _ rfl,by simpa [X] using h2 w hw 7 _ rfl⟩⟩
abbrev Cu (W:Y) (b:Nat) (a0 a1 a2 a3 a4 a5 a6:aj):Y:=((((((W.setCell ⟨b,0,J⟩ a0).setCell ⟨b,1,J⟩ a1).setCell ⟨b,2,J⟩ a2).setCell ⟨b,3,J⟩ a3).setCell ⟨b,4,J⟩ a4).setCell ⟨b,5,J⟩ a5).setCell ⟨b,6,J⟩ a6
theorem Jb {W:Y} {b:Nat} {t:TypeId} {z0 z1 z2 z3 z4 z5 z6:aj} (h:dG W b #[z0,z1,z2,z3,z4,z5,z6] t) (a0 a1 a2 a3 a4 a5 a6:aj):dG (Cu W b a0 a1 a2 a3 a4 a5 a6) b #[a0,a1,a2,a3,a4,a5,a6] t:=by
 have h2:=eu (k:=6) (eu (k:=5) (eu (k:=4) (eu (k:=3) (eu (k:=2) (eu (k:=1) (eu (k:=0) h a0) a1) a2) a3) a4) a5) a6;simp only [List.setIfInBounds_toArray,List.set_cons_zero,List.set_cons_succ] at h2;exact h2
end Bk
end Go.Proofs.YtghlpefopidlaaaGreat
