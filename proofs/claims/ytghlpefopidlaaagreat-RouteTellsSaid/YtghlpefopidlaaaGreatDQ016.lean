/-
  slices.Insert of one. Conditions as told.
-/
import Derived.Test.YtghlpefopidlaaaGreatDQ013
import Derived.Test.YtghlpefopidlaaaGreatDQ015
set_option maxRecDepth 100000
set_option maxHeartbeats 64000000
open _root_.Bool renaming and_eq_true->aI,true->bV
open _root_.Go renaming World->aA,Value->aG,cell_regrown->aP,bodyPost_ret->aV,Calls->bR
open Go.Act renaming put->cB
open Go.Builtin renaming append_->aY,copy_->bN
open Go.Ending renaming returned->aK
open Go.Instr renaming sliceAt->aJ
open Go.IntKind renaming i64->V,wrap_i64->dH
open Go.Lib renaming compact->aC,compactUpTo->aT
open Go.Obj renaming cells->au
open Go.Operand renaming tmp->ay
open Go.Proofs.Tryz renaming prog->Z,ntmps157->cK,func157->dx
open Go.Proofs.YtghlpefopidlaaaGreat.Rg renaming dI->aO,dW->dB
open Go.Proofs.YtghlpefopidlaaaGreat.Rw.Row renaming dL->aW
open Go.RowKit.Below renaming refl->aB,heap_setCell->bJ
open Go.Sort renaming ahead->aS
open Go.Value renaming slice->J,int->U,pointer->aj,agg->aX
open _root_.List renaming getElem?_eq_getElem->ak,length_append->aH,getElem?_toArray->aL,length_map->aM,getElem?_map->aN,getElem?_cons_zero->aQ,getElem?_cons_succ->aR,take_of_length_le->aZ,length_take->bf,mem_of_getElem?->bg,replicate->bF,pairwise_iff_getElem->bH,mem_cons->bQ,map_toArray->bS,drop_of_length_le->bU,length_filter_le->bY,mem_cons_of_mem->cu,map_cons->cO,getElem?_take->cZ,mem_singleton->dh,pairwise_cons->dw,map_nil->dD,take_add_one->dG
open List.Pairwise renaming nil->bK
open _root_.Nat renaming le_trans->ah,le_refl->aD,le_of_lt->aU,lt_or_ge->bD,lt_of_lt_of_le->bG,zero_le->bL,mul_le_mul_right->bZ,lt_of_le_of_lt->dn
open _root_.Option renaming none->L,some->O
open _root_.Or renaming inr->aF
open Go.Proofs.YtghlpefopidlaaaGreat renaming hq->A
namespace Go.Proofs.YtghlpefopidlaaaGreat
namespace Av
open Go.RowKit Rw YtghlpefopidlaaaGreat.Nm Pr Bk
theorem aao {W:aA} {b:Nat} {c:iY} (h:dN W b (jE c).toArray 67):mF W (J (O ⟨b,0,L⟩) 1 1) [c] :=
 aF ⟨⟨b,0,L⟩,1,rfl,by simp,by decide,uK h (by simp [EN])⟩
def FY (B:Nat) (l:List iY) (k:Nat) (c:iY) (r:aG) (W:aA) (e:Ending) (w':aA):Prop:=∃ q,e=aK q/\jJ w' B q (l.take k++c::l.drop k)/\Below B W w'/\(∀ j,j<W.heap.size->O j≠r.ownBlock->w'.heap[j]?=W.heap[j]?)
theorem Oz (B:Nat) (v:aG) (l:List iY) (c:iY) (b:Nat) (W:aA) (j:jJ W B v l) (S:dN W b (jE c).toArray 67) (a6:l.length<=900) (hB:B<=W.heap.size) :
  bR Z 157 #[v,U V (l.length:Nat),J (O ⟨b,0,L⟩) 1 1] W (FY B l l.length c v W):=by
 obtain⟨G,w',u,H,q⟩:=iC nE B j (aao S) (by omega) (by simp) hB 27;have u:(aY #[27,27] 27 #[v,J (O ⟨b,0,L⟩) 1 1]).run Z W=.ok G w':=u;have Q:=A (show FY B l l.length c v W (aK G) w' from ⟨G,rfl,by rw [aZ (aD _),bU (aD _)]; exact H,(aB B W).grown q hB (fun F r=>(j.lt F r).1),fun F r N=>q.block F r N⟩);obtain⟨T,I,_⟩:=qU nE (aW j) l.length (aD _);have I:∀ w,(aJ 27 v (O (U V l.length)) L L).run Z w=.ok T w:=I;obtain⟨a2,a1,rfl⟩:=(aW j).len;clear j H q;generalize M:l.length=n at *;clear M;go_enter dx,cK;go_wp2_with (first | (at_builtin; refine wpList_append_run rfl _ _ 27 rfl rfl rfl u ?_) | fail);go_ret;exact Q.o
theorem aap (w:aA) (g b k la q cb:Nat) (cur cs:Array aG) (j:dN w b cs 67) (r:dN w g cur 67) (u:b≠g) (F:0<cur.size):(callFunc 181 #[J (O ⟨b,0,L⟩) la 1,J (O ⟨g,k,L⟩) q cb]).run Z w=.ok (.value (.bool false)) w:=by
 rw [run_callFunc_extern Tryz.func181 (by kernel_rfl) (by kernel_rfl) (by kernel_rfl) (e:=Extern.SlicesOverlaps.overlaps #[27,27] #[4]) (by kernel_rfl),
  Lib.run_overlaps_apart w 27 4 67 Tryz.underlying27 7 Tryz.sizeOf67 ⟨b,0,L⟩ ⟨g,k,L⟩ la 1 q cb u 67 67 cs.size cur.size j.shape r.shape (by omega) (j.fr 0) (j.fr _)]
 rfl
theorem Iw (B g n cap:Nat) (cur:Array aG) (l:List iY) (k:Nat) (c:iY) (b:Nat) (W:aA) (I:n=l.length) (F:B<=g) (u:dN W g cur 67) (S:cap<=maxLen) (a1:cur.size=cap * 7) (a2:cur.toList.take (n * 7)=flat EN l) (M:dN W b (jE c).toArray 67) (r:b≠g) (bE:k<n) (bM:n+1<=cap) (bI:n<=900) :
  bR Z 157 #[J (O ⟨g,0,L⟩) n cap,U V k,J (O ⟨b,0,L⟩) 1 1] W (FY B l k c (J (O ⟨g,0,L⟩) n cap) W):=by
 obtain⟨q,H,a8,aE,a6⟩:=sZ (E:=EN) (l:=l) (k:=k) (cap:=cap) (cur:=cur) (cs:=(jE c).toArray) (c:=c) nE (by omega) (by omega) a1 (by rw [<- I]; exact a2) g b r;have T:=fun b9 cb=>aap W g b ((k+1) * 7) 1 b9 cb cur (jE c).toArray M u r (by omega);have s0:=iw (E:=EN) nE g k n cap (by omega) (by omega);have s1:=kI (E:=EN) nE ⟨g,0,L⟩ (n+1) n cap (by omega);have s2:=iw (E:=EN) nE g (k+1) (n+1) cap (by omega) (by omega);have s3:=iw (E:=EN) nE g k (n+1) cap (by omega) (by omega);have G:=a8 W.drew 3 (n+1-(k+1)) (cap-(k+1)) (n+1-k) (cap-k) u (by omega);have a7:=aE (W.drew.setRow g q) 3 (n+1-k) (cap-k) (dN.set (show dN W.drew g cur 67 from u) q) (dN.other (show dN W.drew b _ 67 from M) r q) rfl (by omega);have Q:=A (show FY B l k c (J (O ⟨g,0,L⟩) n cap) W (aK (J (O ⟨g,0,L⟩) (n+1) cap)) ((W.drew.setRow g q).setRow g H) from ⟨_,rfl,by rw [I]; exact a6 _ B F S (dN.set (dN.set (show dN W.drew g cur 67 from u) q) H),below_setRow (below_setRow (aB B W).drew F _) F _,fun j bC r=>(setRow_other _ g j _ (fun e=>r (by rw [e]; rfl))).trans (setRow_other _ g j _ (fun e=>r (by rw [e]; rfl)))⟩);clear a8 aE a6 u a2 M a1 F S;change ∀ w,(aJ 27 (J (O ⟨g,0,L⟩) n cap) (O (U V k)) L L).run Z w=.ok (J (O ⟨g,k * 7,L⟩) (n-k) (cap-k)) w at s0;change ∀ w,(aJ 27 (J (O ⟨g,0,L⟩) n cap) L (O (U V ((n:Int)+1))) L).run Z w=.ok (J (O ⟨g,0,L⟩) (n+1) cap) w at s1;change ∀ w,(aJ 27 (J (O ⟨g,0,L⟩) (n+1) cap) (O (U V ((k:Int)+1))) L L).run Z w=.ok (J (O ⟨g,(k+1) * 7,L⟩) (n+1-(k+1)) (cap-(k+1))) w at s2;change ∀ w,(aJ 27 (J (O ⟨g,0,L⟩) (n+1) cap) (O (U V k)) L L).run Z w=.ok (J (O ⟨g,k * 7,L⟩) (n+1-k) (cap-k)) w at s3;have bA:((k:Int) == (n:Int))=false:=by rw [beq_eq_false_iff_ne]; omega
 have bB:decide ((cap:Int)<(n:Int)+1)=false:=by simp; omega
 change (bN #[27,27] 3 #[J (O ⟨g,(k+1) * 7,L⟩) (n+1-(k+1)) (cap-(k+1)),J (O ⟨g,k * 7,L⟩) (n+1-k) (cap-k)]).run Z W.drew=.ok (U V ((l.length-k:Nat):Int)) (W.drew.setRow g q) at G;change (bN #[27,27] 3 #[J (O ⟨g,k * 7,L⟩) (n+1-k) (cap-k),J (O ⟨b,0,L⟩) 1 1]).run Z (W.drew.setRow g q)=.ok (U V 1) ((W.drew.setRow g q).setRow g H) at a7;clear I;go_enter dx,cK;go_wp2_with (first | (simp only [T]) | fail);clear T s0 s1 s2 s3;have b8:IntKind.i64.wrap ((k:Int)+1)=(k:Int)+1:=by rw [dH]; omega
 have b2:(0:Int)<=(k:Int)+1:=by omega
 have b1:(k:Int)+1<=(n:Int)+1:=by omega
 have b7:((k:Int)+1).toNat=k+1:=by omega
 have b4:¬ (cap=k+1):=by omega
 have b5:(k:Int)<=(n:Int)+1:=by omega
 have b6:¬ (cap=k):=by omega
 have N:n+1-(k+1)=n-k:=by omega
 rw [N] at G;clear N
 go_region_law (refine iW rfl (ay 73) (ay 76) 27 rfl (v:=J (O ⟨g,(k+1) * 7,L⟩) (n-k) (cap-(k+1))) (xv:=J (O ⟨g,k * 7,L⟩) (n+1-k) (cap-k)) (by simp [Act.eval,cB]) (by simp [Act.eval,cB]) G ?_)
 all_goals simp only [Exit.then]
 all_goals apply_assumption
 clear G b8 b2 b1 b7 b4 b5 b6;have s3:=iw (E:=EN) nE g k (n+1) cap (by omega) (by omega);change ∀ w,(aJ 27 (J (O ⟨g,0,L⟩) (n+1) cap) (O (U V k)) L L).run Z w=.ok (J (O ⟨g,k * 7,L⟩) (n+1-k) (cap-k)) w at s3;go_wp2_with (first | (at_builtin; refine wpList_copy_run rfl _ _ 27 rfl rfl rfl a7 ?_) | fail);go_ret;exact Q.o
theorem Lx (B g n cap:Nat) (cur:Array aG) (l:List iY) (k:Nat) (c:iY) (b:Nat) (W:aA) (u:n=l.length) (I:dN W g cur 67) (bB:cap<=maxLen) (cA:n<=cap) (aE:cur.toList.take (n * 7)=flat EN l) (S:dN W b (jE c).toArray 67) (c8:k<n) (cC:cap<n+1) (c9:n<=900) (hB:B<=W.heap.size) :
  bR Z 157 #[J (O ⟨g,0,L⟩) n cap,U V k,J (O ⟨b,0,L⟩) 1 1] W (FY B l k c (J (O ⟨g,0,L⟩) n cap) W):=by
 have c7:=I.lt;have bA:=S.lt;obtain⟨G,q,r,M,bM,b9,b4,b5,b6,b2⟩:=vL (E:=EN) (l:=l) (k:=k) (cap:=cap) (cur:=cur) (cs:=(jE c).toArray) (c:=c) nE 3 Tryz.underlying3 (by omega) (by omega) (by omega) (by omega) (by rw [<- u]; exact aE) W g b I bA;unfold maxLen at bB b9;have s0:=iw (E:=EN) nE g k n cap (by omega) (by omega);have s1:=kI (E:=EN) nE ⟨g,0,L⟩ k n cap (by omega);have s2:=iw (E:=EN) nE W.heap.size k (n+1) G (by omega) (by omega);have s3:=iw (E:=EN) nE W.heap.size (k+1) (n+1) G (by omega) (by omega);have H:=b4 27;have F:=dR W.drew q 67;have a2:W.drew.heap.size=W.heap.size:=rfl;rw [a2] at F;have a6:dN (W.drew.alloc (au q 67)) g cur 67:=dN.more (show dN W.drew g cur 67 from I) _;have b7:dN (W.drew.alloc (au q 67)) b (jE c).toArray 67:=dN.more (show dN W.drew b _ 67 from S) _;have T:=b5 (W.drew.alloc (au q 67)) 3 (n+1-k) (G-k) F b7 rfl (by omega);have a1:=b6 ((W.drew.alloc (au q 67)).setRow W.heap.size r).drew 3 (n+1-(k+1)) (G-(k+1)) (n-k) (cap-k) (dN.set F r) (dN.other a6 (by omega) r) (by omega);have Q:=A (show FY B l k c (J (O ⟨g,0,L⟩) n cap) W (aK (J (O ⟨W.heap.size,0,L⟩) (n+1) G)) (((W.drew.alloc (au q 67)).setRow W.heap.size r).drew.setRow W.heap.size M) from ⟨_,rfl,by rw [u]; exact b2 _ B hB (dN.set (dN.set F r) M),below_setRow (below_setRow ((aB B W).drew.alloc hB _) hB _).drew hB _,fun j a8 _=>(setRow_other _ W.heap.size j _ (by omega)).trans ((setRow_other _ W.heap.size j _ (by omega)).trans (Array.getElem?_push_lt a8 |>.trans (Array.getElem?_eq_getElem a8).symm))⟩);have b1:l.length+1=n+1:=by rw [u]
 rw [b1,<- u] at H;clear b4 b5 b6 b2 I aE S a6 b7 F a2 b1;change ∀ w,(aJ 27 (J (O ⟨g,0,L⟩) n cap) (O (U V k)) L L).run Z w=.ok (J (O ⟨g,k * 7,L⟩) (n-k) (cap-k)) w at s0;change ∀ w,(aJ 27 (J (O ⟨g,0,L⟩) n cap) L (O (U V k)) L).run Z w=.ok (J (O ⟨g,0,L⟩) k cap) w at s1;change ∀ w,(aJ 27 (J (O ⟨W.heap.size,0,L⟩) (n+1) G) (O (U V k)) L L).run Z w=.ok (J (O ⟨W.heap.size,k * 7,L⟩) (n+1-k) (G-k)) w at s2;change ∀ w,(aJ 27 (J (O ⟨W.heap.size,0,L⟩) (n+1) G) (O (U V ((k:Int)+1))) L L).run Z w=.ok (J (O ⟨W.heap.size,(k+1) * 7,L⟩) (n+1-(k+1)) (G-(k+1))) w at s3;change (aY #[27,3] 27 #[J (O ⟨g,0,L⟩) k cap,U V ((n:Int)+1-k)]).run Z W=.ok (J (O ⟨W.heap.size,0,L⟩) (n+1) G) (W.drew.alloc (au q 67)) at H;change (bN #[27,27] 3 #[J (O ⟨W.heap.size,k * 7,L⟩) (n+1-k) (G-k),J (O ⟨b,0,L⟩) 1 1]).run Z (W.drew.alloc (au q 67))=.ok (U V 1) ((W.drew.alloc (au q 67)).setRow W.heap.size r) at T;change (bN #[27,27] 3 #[J (O ⟨W.heap.size,(k+1) * 7,L⟩) (n+1-(k+1)) (G-(k+1)),J (O ⟨g,k * 7,L⟩) (n-k) (cap-k)]).run Z ((W.drew.alloc (au q 67)).setRow W.heap.size r).drew=.ok (U V ((l.length-k:Nat):Int)) (((W.drew.alloc (au q 67)).setRow W.heap.size r).drew.setRow W.heap.size M) at a1;have bE:((k:Int) == (n:Int))=false:=by rw [beq_eq_false_iff_ne]; omega
 have bI:decide ((cap:Int)<(n:Int)+1)=bV:=by simp; omega
 have bO:n+1<=G:=by omega
 clear u;generalize W.heap.size=N at *;generalize W.drew.alloc (au q 67)=b8 at *;generalize b8.setRow N r=bC at *;go_enter dx,cK;go_wp2_with (first | (at_builtin; refine jA rfl _ _ 27 3 rfl rfl rfl H ?_) | (at_builtin; refine wpList_copy_run rfl _ _ 27 rfl rfl rfl T ?_) | fail);clear H T s0 s1 s2 s3;have cF:IntKind.i64.wrap ((k:Int)+1)=(k:Int)+1:=by rw [dH]; omega
 have bT:(0:Int)<=(k:Int)+1:=by omega
 have bP:(k:Int)+1<=(n:Int)+1:=by omega
 have cD:((k:Int)+1).toNat=k+1:=by omega
 have bW:¬ (G=k+1):=by omega
 have bX:(k:Int)<=(n:Int):=by omega
 have c6:¬ (cap=k):=by omega
 have a7:n+1-(k+1)=n-k:=by omega
 rw [a7] at a1;clear a7
 go_region_law (refine iW rfl (ay 50) (ay 53) 27 rfl (v:=J (O ⟨N,(k+1) * 7,L⟩) (n-k) (G-(k+1))) (xv:=J (O ⟨g,k * 7,L⟩) (n-k) (cap-k)) (by simp [Act.eval,cB]) (by simp [Act.eval,cB]) a1 ?_)
 all_goals simp only [Exit.then]
 all_goals apply_assumption
 go_wp2;go_ret;exact Q.o
theorem Cx (B:Nat) (v:aG) (l:List iY) (k:Nat) (c:iY) (b:Nat) (W:aA) (H:jJ W B v l) (u:dN W b (jE c).toArray 67) (S:v.ownBlock≠O b) (T:k<=l.length) (r:l.length<=900) (hB:B<=W.heap.size) :
  bR Z 157 #[v,U V k,J (O ⟨b,0,L⟩) 1 1] W (FY B l k c v W):=by
 rcases bD k l.length with h|h
 ·rcases gD H with⟨_,j⟩|⟨g,cap,cur,rfl,I,j,M,F,N,G⟩
  ·rw [j] at h; simp at h
  ·rcases bD cap (l.length+1) with q|q
   ·exact Lx B g _ cap cur l k c b W rfl j F M G u h q r hB
   ·exact Iw B g _ cap cur l k c b W rfl I j F N G u (fun e=>S (by simp [Value.ownBlock,e])) h q r
 ·obtain rfl:k=l.length:=by omega
  exact Oz B v l c b W H u r hB
end Av
namespace Av
open Go.RowKit Rw YtghlpefopidlaaaGreat.Nm Pr Bk Go.Sort
theorem aah {α:Type} [Inhabited α] (enc:α->aG) (d:Array α) (cur:Array aG) (h:d.size<=cur.size):(putCells enc 0 d cur).toList.take d.size=d.toList.map enc:=by
 apply List.ext_getElem?;intro q;rw [cZ];by_cases j:q<d.size
 ·have r:q<cur.size:=by omega
  simp [putCells,j,r]
 ·simp [j]
theorem FR {α r:Type} [Inhabited r] {E:Ek α} (K:E.Ok) {w:aA} {B g cap:Nat} {l l':List α} (h:Own E w B (J (O ⟨g,0,L⟩) l.length cap) l) (enc:r->aG) (d:Array r) (G:d.toList.map enc=flat E l') (j:l'.length=l.length) (n:Nat) (os:Array Obj) :
  Own E (grow (putRow enc (aS w n) g 0 d) os) B (J (O ⟨g,0,L⟩) l.length cap) l'/\w.grownBy (grow (putRow enc (aS w n) g 0 d) os) (O g):=by
 have H:d.size=l.length * E.n:=by
  rw [<- j,<- eO K l',<- G];simp
 rcases gD h with⟨e,_⟩|⟨M,I,cur,e,N,q,u,S,F,aE⟩
 ·cases e
 obtain⟨rfl,rfl⟩:g=M/\cap=I:=by simpa using e
 have a7:=lt_of_heap q;have T:(grow (putRow enc (aS w n) g 0 d) os).heap[g]?=O (au (putCells enc 0 d cur) E.t (0,0)):=by
  rw [heap_grow_old _ _ (by simp [putRow,mapBlock,aS]; exact a7)];unfold dN at q;simp only [putRow,mapBlock,aS,Array.getElem?_modify,if_true,q]
  rfl
 have a1:d.size<=cur.size:=by
  rw [H,F];exact bZ _ u
 refine⟨⟨by rw [eO K],aF ⟨g,cap,_,by rw [j],N,T,by rw [j]; exact u,S,by simp [putCells]; exact F,?_⟩⟩,⟨rfl,rfl,rfl,by simp [putRow,mapBlock,aS],fun k a2 a8=>?_⟩⟩
 ·rw [j,<- H,aah enc d cur a1,G]
 ·rw [heap_grow_old _ _ (by simp [putRow,mapBlock,aS]; exact a2)];have a6:g≠k:=fun e=>a8 (by rw [e]);simp [putRow,mapBlock,aS,Array.getElem?_modify,a6]
theorem JI {α:Type} {E:Ek α} {w:aA} {B g cap:Nat} {l:List α} (K:E.Ok) {u:Type} [Inhabited u] (enc:u->aG) (d:Array u) (F:d.toList.map enc=flat E l) (h:Own E w B (J (O ⟨g,0,L⟩) l.length cap) l):Holds enc w g 0 d/\g<w.heap.size:=by
 rcases gD h with⟨e,_⟩|⟨I,H,cur,e,N,q,S,T,a1,M⟩
 ·cases e
 obtain⟨rfl,rfl⟩:g=I/\cap=H:=by simpa using e
 refine⟨fun j G=>?_,q.lt⟩;rw [Nat.zero_add];refine⟨?_,q.fr j⟩;rw [q.cell j];have a2:d.size=l.length * E.n:=by
  rw [<- eO K l,<- F];simp
 have r:(cur.toList.take (l.length * E.n))[j]?=(d.toList.map enc)[j]?:=by rw [M,F]
 rw [cZ,if_pos (by omega)] at r;rw [Array.getElem?_toList] at r;rw [r,aN,Array.getElem?_toList,getElem!_pos d j G,Array.getElem?_eq_getElem G]
 rfl
theorem Wv (w:aA) (B:Nat) (v:aG) (l:List Int) (h:zk w B v l) (a1:l.length<=900):bR Z 40 #[v] w fun e w'=>e=aK (.tuple #[])/\∃ l':List Int,zk w' B v l'/\l'.Perm l/\l'.Pairwise (·<=·)/\w.grownBy w' v.ownBlock:=by
 rcases gD h with⟨rfl,rfl⟩|⟨g,cap,cur,rfl,q,r,M,N,S,T⟩
 ·have j:=Any.slices_Sort_int_none Tryz.sortI L 0 w;refine Calls.mono j ?_;rintro e w' ⟨rfl,rfl⟩;exact⟨rfl,[],h,List.Perm.refl _,bK,Rw.uJ _ _⟩
 ·obtain⟨G,H⟩:=JI Nm.UY (U V) l.toArray (by rw [MW]) h;have j:=Any.slices_Sort_int Tryz.sortI g 0 cap l w G H (by omega);refine Calls.mono j ?_;rintro e w' ⟨rfl,n,os,rfl⟩;have u:=FR Nm.UY (l':=l.mergeSort fun x y=>decide (x<=y)) h (U V) (l.mergeSort fun x y=>decide (x<=y)).toArray (by rw [MW]) (List.length_mergeSort l) n os;refine⟨rfl,_,u.1,List.mergeSort_perm _ _,?_,u.2⟩;have I:=List.pairwise_mergeSort (le:=fun x y:Int=>decide (x<=y)) (fun a b c q r=>by simp at q r ⊢; omega) (fun a b=>by simp; omega) l;exact I.imp (fun {a b} F=>by simpa using F)
theorem Ov (d:Array Int) (n:Nat) (G:∀ i j,i<=j->j<n->d[i]!<=d[j]!):∀ m,m<=n->(∀ x∈aT d m,∃ j,j<m/\d[j]! = x)/\(∀ j,j<m->d[j]!∈aT d m)/\(aT d m).Pairwise (·<·)
 | 0,_=>⟨fun x h=>by simp [aT] at h,fun j h=>by omega,by simp [aT]⟩
 | m+1,a2=>by
  obtain⟨r,u,I⟩:=Ov d n G m (by omega);rw [Lib.compactUpTo_succ];cases M:Lib.keeps d m with
  | false =>
   simp only [Bool.false_eq_true,if_false,List.append_nil];have F:m≠0/\d[m]! = d[m-1]!:=by
    have h:=of_decide_eq_false M;rw [not_or] at h;exact⟨h.1,Classical.not_not.1 h.2⟩
   refine⟨fun x H=>?_,fun j q=>?_,I⟩
   ·obtain⟨j,q,e⟩:=r x H;exact⟨j,by omega,e⟩
   ·rcases bD j m with h|h
    ·exact u j h
    ·obtain rfl:j=m:=by omega
     rw [F.2];exact u _ (by omega)
  | true =>
   simp only [if_true];have F:m=0\/d[m]!≠d[m-1]!:=of_decide_eq_true M;refine⟨fun x H=>?_,fun j q=>?_,?_⟩
   ·rcases List.mem_append.1 H with h|h
    ·obtain⟨j,q,e⟩:=r x h;exact⟨j,by omega,e⟩
    ·exact⟨m,by omega,(dh.1 h).symm⟩
   ·rcases bD j m with h|h
    ·exact List.mem_append_left _ (u j h)
    ·obtain rfl:j=m:=by omega
     exact List.mem_append_right _ (by simp)
   ·rw [List.pairwise_append];refine⟨I,List.pairwise_singleton _ _,fun a N b S=>?_⟩;obtain⟨j,q,rfl⟩:=r a N;rw [dh.1 S];have T:=G j (m-1) (by omega) (by omega);have a1:=G (m-1) m (by omega) (by omega);rcases F with h|h
    ·omega
    ·omega
theorem Rc (l:List Int) (I:l.Pairwise (·<=·)):(aC l).Pairwise (·<·)/\(∀ x,x∈aC l↔x∈l)/\(aC l).length<=l.length:=by
 have H:∀ i j,i<=j->j<l.length->l.toArray[i]!<=l.toArray[j]!:=by
  intro i j M q;rw [getElem!_pos l.toArray i (by simp; omega),getElem!_pos l.toArray j (by simpa using q)];rcases bD i j with h|h
  ·have:=bH.1 I i j (by omega) q h;simpa using this
  ·obtain rfl:i=j:=by omega
   exact Int.le_refl _
 obtain⟨u,F,G⟩:=Ov l.toArray l.length H l.length (aD _);refine⟨G,fun x=>⟨fun r=>?_,fun r=>?_⟩,?_⟩
 ·obtain⟨j,q,rfl⟩:=u x r;rw [getElem!_pos l.toArray j (by simpa using q)];simp
 ·obtain⟨j,q,rfl⟩:=List.mem_iff_getElem.1 r;have:=F j q;rw [getElem!_pos l.toArray j (by simpa using q)] at this;simpa [aC] using this
 ·unfold aC aT;rw [aM];exact ah (bY _ _) (by simp)
theorem aai (w:aA) (B:Nat) (v:Sl) (l:List Int) (h:zk w B (eu v) l) (a2:l.Pairwise (·<=·)) (b9:l.length<=900):bR Z 41 #[eu v] w fun e w'=>(∃ H:Sl,e=aK (eu H)/\∃ l':List Int,zk w' B (eu H) l'/\l'.Pairwise (·<·)/\∀ x,x∈l'↔x∈l)/\w.grownBy w' (eu v).ownBlock:=by
 obtain⟨M,I,j⟩:=v;rcases gD h with⟨q,rfl⟩|⟨g,cap,cur,q,b4,b5,F,b6,b7,b8⟩
 ·obtain⟨rfl,rfl,rfl⟩:M=L/\I=0/\j=0:=by simpa using q
  have r:=Any.slices_Compact_int_empty Tryz.cptI L 0 w;refine Calls.mono r ?_;rintro e w' ⟨rfl,rfl⟩;exact⟨⟨(L,0,0),rfl,[],h,bK,fun _=>Iff.rfl⟩,Rw.uJ _ _⟩
 ·obtain⟨rfl,rfl,rfl⟩:M=O ⟨g,0,L⟩/\I=l.length/\j=cap:=by simpa using q
  obtain⟨a1,bA⟩:=JI Nm.UY (U V) l.toArray (by rw [MW]) h;have r:=Any.slices_Compact_int Tryz.cptI g 0 j l w a1 (by omega) F;obtain⟨c1,c2,c3⟩:=Rc l a2;refine Calls.mono r ?_;rintro e w' ⟨rfl,n,rfl⟩;have u:=FR Nm.UY (l':=aC l++bF (l.length-(aC l).length) 0) h (U V) (aC l++bF (l.length-(aC l).length) 0).toArray (by rw [MW]) (by rw [aH,List.length_replicate]; omega) n #[];have T:grow (putRow (U V) (aS w n) g 0 (aC l++bF (l.length-(aC l).length) 0).toArray) #[]=putRow (U V) (aS w n) g 0 (aC l++bF (l.length-(aC l).length) 0).toArray:=grow_empty _;rw [T] at u;refine⟨⟨(O ⟨g,0,L⟩,(aC l).length,j),rfl,aC l,?_,c1,c2⟩,u.2⟩;rcases gD u.1 with⟨e,_⟩|⟨S,N,b2,e,a6,a7,bB,a8,aE,b1⟩
  ·cases e
  ·obtain⟨rfl,_,rfl⟩:g=S/\l.length=_/\j=N:=by simpa using e
   refine pF Nm.UY rfl a6 a7 (ah c3 F) a8 aE ?_;have G:=congrArg (List.take ((aC l).length * EI.n)) b1;rw [List.take_take,qK Nm.UY,Nat.min_eq_left (bZ _ (by rw [aH]; omega)),List.take_left'] at G
   ·exact G
   ·rfl
abbrev JJ (me:Int) (near:List Int):Br:=⟨me,near,[],[],[],[]⟩
theorem aaj (me:Int) (v:Sl) (l:List Int) (w:aA) (bE:sW w (eu v) l) (a2:l.length<=900) :
  bR Z 9 #[U V me,eu v] w fun e w'=>(∃ (l':List Int) (b2:Sl),e=aK (mg me b2 (L,0,0) (L,0,0) (L,0,0) (L,0,0))/\iT w' (JJ me l') b2 (L,0,0) (L,0,0) (L,0,0) (L,0,0)/\(∃ B,zk w' B (eu b2) l')/\l'.Pairwise (·<·)/\∀ x,x∈l'↔x∈l)/\Below w.heap.size w w':=by
 have b1:=fP w (au #[U V 0,J L 0 0,J L 0 0,J L 0 0,J L 0 0,J L 0 0] 30);have X:=A (dR w #[U V 0,J L 0 0,J L 0 0,J L 0 0,J L 0 0,J L 0 0] 30);have C:=A (Ev v l _ (bE.on b1) a2);have r:=A b1;have b7:=A a2;obtain⟨cQ,cP,cN⟩:=v;clear bE a2 b1;go_enter Tryz.func9,Tryz.ntmps9;go_wp2_with fail;generalize w.alloc (au #[U V 0,J L 0 0,J L 0 0,J L 0 0,J L 0 0,J L 0 0] 30)=W at *;refine C.o.mono ?_;rintro cC w1 ⟨⟨⟨bX,c6,c7⟩,rfl,a6⟩,M⟩;have u:=A (r.o.trans (M.mono r.o.size));have H:=A (X.o.on M);have bT:w.heap.size<W.heap.size:=X.o.lt;have b4:=A (Wv w1 W.heap.size _ l a6 b7.o);have G:=A (fun g N=>(a6.lt g N).1);have q:=A bT;clear M a6 C X;go_wp2_with fail;refine b4.o.mono ?_;rintro cD bI ⟨rfl,bW,a7,a8,bB,S⟩;have F:=A (u.o.grown S u.o.size (fun j a1=>ah (aU q.o) (G.o j a1)));have I:=A (show dN bI w.heap.size _ _ from (S.block _ H.o.lt (fun e=>by have:=G.o _ e.symm; have:=q.o; omega)).trans H.o);have b5:=A (aai bI W.heap.size (bX,c6,c7) bW a7 bB (by rw [a8.length_eq]; exact b7.o));have PM:=A a8;have b8:=A (fun g N=>(a7.lt g N).1);clear a7 a8 bB S b4 G H;go_wp2_with fail;refine b5.o.mono ?_;rintro cF cA ⟨⟨⟨t1,t2,t3⟩,rfl,aE,bA,bC,b9⟩,T⟩;have bM:=A (F.o.grown T F.o.size (fun j a1=>ah (aU q.o) (b8.o j a1)));have Y:=show dN cA w.heap.size _ _ from (T.block _ I.o.lt (fun e=>by have:=b8.o _ e.symm; have:=q.o; omega)).trans I.o;obtain⟨cR,cS,cT,cU,cV,cW⟩:=Y.fA;obtain⟨cG,cH,cI,cJ,cL,cM⟩:=Y.kg;have cX:=Y.lt;have bO:=A (dM Y (U V me) (J t1 t2 t3) (J L 0 0) (J L 0 0) (J L 0 0) (J L 0 0));have bP:=A (dJ (b:=w.heap.size) bM.o (aD _) (U V me) (J t1 t2 t3) (J L 0 0) (J L 0 0) (J L 0 0) (J L 0 0));have b6:=A (fJ bA w.heap.size q.o (U V me) (J t1 t2 t3) (J L 0 0) (J L 0 0) (J L 0 0) (J L 0 0));have Q:=A (show aE.Pairwise (·<·)/\∀ x,x∈aE↔x∈l from ⟨bC,fun x=>(b9 x).trans PM.o.mem_iff⟩);clear bA bC b9 T Y I b5 F u r;go_wp2_with fail;obtain⟨v0,c8,c9,v3,v4,v5⟩:=bO.o.fA;refine aV (v:=aX #[U V me,J t1 t2 t3,J L 0 0,J L 0 0,J L 0 0,J L 0 0]) (by simp [results,Tryz.results9,go_sem,v0,c8,c9,v3,v4,v5]) rfl ?_;exact⟨⟨aE,(t1,t2,t3),rfl,⟨aW b6.o,⟨[],jK _,.nil⟩,jK _,⟨[],jK _,.nil⟩,⟨[],jK _,.nil⟩⟩,⟨_,b6.o⟩,Q.o.1,Q.o.2⟩,bP.o⟩
end Av
namespace Av
open Go.RowKit Rw YtghlpefopidlaaaGreat.Nm Pr Wr
theorem aiX (c:Cn) (h:xV c=bV):qB (r5 c)=bV:=by
 obtain⟨n,k⟩:=c;unfold xV at h;rw [aI] at h;obtain⟨F,r⟩:=h;have q:At.lV n=bV:=F;cases k with
 | rg lo H =>
  have j:lo<=H:=by simpa [jM] using r
  have u:(⟨#[]⟩:ByteArray).size=0:=rfl;simp [r5,qB,kN,kS,kU,kT,q,j,u]
 | tx t =>
  have j:t.size<=12:=by simpa [jM] using r
  simp [r5,qB,kN,kS,kU,kT,q,j]
 | pr t =>
  have j:t.size<12:=by simpa [jM] using r
  have G:t.size<=11:=by omega
  simp [r5,qB,kN,kS,kU,kT,q,G]
theorem Ox (l:List C5) (r:l.Pairwise fun x y=>Op.bytesLess x.1.toList y.1.toList=bV) (u:l.length<=5) (F:∀ c∈l,qB c=bV):fT l=bV:=by
 rw [Ey l fun j q=>?_]
 ·simpa using u
 unfold uY;rw [ak q];simp only [aI];refine⟨F _ (List.getElem_mem q),?_⟩;cases j with
 | zero=>rfl
 | succ j =>
  rw [Bool.or_eq_true];right;rw [Nat.add_sub_cancel,ak (by omega)];exact bH.1 r j (j+1) (by omega) q (by omega)
theorem FT (has j:List Int):fT ((om has j 7).map r5)=bV:=by
 have h:=YW has j;refine Ox _ ?_ (by rw [aM]; exact h.five) fun c q=>?_
 ·rw [List.pairwise_map];exact h.rise
 ·obtain⟨x,r,rfl⟩:=List.mem_map.1 q;exact aiX x (h.good x r)
theorem aak {c:C5} (h:qB c=bV):c.1.size<=12/\c.2.2.2.2.size<=12:=by
 unfold qB At.lV at h;simp only [aI,decide_eq_true_eq] at h;refine⟨h.1.2.2,?_⟩;have j:=h.2
 split at j
 ·simp only [aI,decide_eq_true_eq] at j; omega
 ·split at j
  ·simp only [aI,decide_eq_true_eq] at j; omega
  ·split at j
   ·simp only [aI,decide_eq_true_eq] at j; omega
   ·cases j
theorem yY {l:List C5} (h:fT l=bV):Li l:=fun x F=>by
 unfold fT at h;rw [aI,List.all_eq_true] at h;obtain⟨G,u,rfl⟩:=List.getElem_of_mem F;have j:=h.1 G (List.mem_range.2 u);unfold uY at j;rw [ak u] at j;simp only [aI] at j;have q:=aak j.1;have r:12<=maxLen:=by decide
 exact⟨ah q.1 r,ah q.2 r⟩
end Av
namespace Av
open Go.RowKit Go.Sort Rw YtghlpefopidlaaaGreat.Nm Pr Bk
theorem Bu {α:Type} (l:List α) (k:Nat) (x:α):(gL l k x).length=l.length+1:=by
 unfold gL;simp only [aH,List.length_cons,List.length_nil,bf,List.length_drop];omega
theorem JL (b:Br):Bt b b=bV:=(Rh b b).2 rfl
end Av
namespace Bk
open Go.RowKit Go.Sort Rw YtghlpefopidlaaaGreat.Nm Pr
structure Ou where
 jw:Int
 kind:Int
 tree:Id
 id:Id
 p:List C5
def tZ (W:aA) (x:nu) (o:Ou):Prop:=x.1=o.jw/\x.2.1=o.kind/\(x.2.2.1,x.2.2.2.1)=o.tree/\(x.2.2.2.2.1,x.2.2.2.2.2.1)=o.id/\fO W (eu x.2.2.2.2.2.2.1) o.p/\x.2.2.2.2.2.2.2=(L,0,0)
theorem tZ.on {W j:aA} {x:nu} {o:Ou} (h:tZ W x o) (q:Below W.heap.size W j):tZ j x o:=⟨h.1,h.2.1,h.2.2.1,h.2.2.2.1,h.2.2.2.2.1.on q,h.2.2.2.2.2⟩
def lZ (W:aA) (s:Sl) (l:List Ou):Prop:=∃ j,Nf W (eu s) j/\eY (tZ W) j l
theorem lZ.on {W j:aA} {s:Sl} {l:List Ou} (h:lZ W s l) (q:Below W.heap.size W j):lZ j s l:=by
 obtain⟨F,r,u⟩:=h;exact⟨F,r.on q,u.mono fun _ _ h=>h.on q⟩
theorem uf (W:aA):lZ W (L,0,0) []:=⟨[],jK _,.nil⟩
def rF (jw:Int) (e:En):Ou:=⟨jw,3,e.tree,e.sub,e.p⟩
abbrev Rf (jw:Int) (x:iY):nu:=(jw,3,x.1,x.2.1,x.2.2.1,x.2.2.2.1,x.2.2.2.2.1,(L,0,0))
theorem aiY {W:aA} {x:iY} {e:En} (h:jF W x e) (t:Int):tZ W (Rf t x) (rF t e):=⟨rfl,rfl,h.1,h.2.1,h.2.2.2.2,rfl⟩
def jv (b:Br) (t x:Id) (f:Int):Br×List Ou:=if (takeB b t x f).2.2=false then ((takeB b t x f).1,[]) else
 match b.dQ[(fQ (b.dQ.map Ad.id) t).toNat]? with
 | none=>((takeB b t x f).1,[])
 | some a=>((takeB b t x f).1,(takeB b t x f).2.1.map (rF a.par)++[⟨a.par,4,t,x,[]⟩])
theorem jf (b:Br) (t x:Id) (f:Int):(takeB b t x f).1.dQ=b.dQ/\(takeB b t x f).1.near=b.near/\(takeB b t x f).1.me=b.me/\(takeB b t x f).1.seen=b.seen/\(takeB b t x f).1.own=b.own:=by
 unfold takeB
 split
 ·exact⟨rfl,rfl,rfl,rfl,rfl⟩
 ·split
  ·exact⟨rfl,rfl,rfl,rfl,rfl⟩
  ·split
   ·exact⟨rfl,rfl,rfl,rfl,rfl⟩
   ·split <;> exact⟨rfl,rfl,rfl,rfl,rfl⟩
theorem FX {b:Br} {t x:Id} {f:Int} (h:(takeB b t x f).2.2=bV):∃ e∈b.ent,e.tree=t:=by
 unfold takeB at h
 split at h
 ·cases h
 ·rename_i e q
  split at h
  ·cases h
  ·rename_i u
   rcases pI (b.ent.map fE) (t,x) with j|⟨k,j,r⟩
   ·exact absurd j u
   ·rw [j,Int.toNat_natCast] at q;refine⟨e,bg q,?_⟩;rw [aN,q] at r;exact congrArg Prod.fst (Option.some.inj r)
theorem oU (b:Br) (t x:Id) (f:Int):(takeB b t x f).1.ent.length<=b.ent.length/\(takeB b t x f).2.1.length<=b.ent.length:=by
 unfold takeB
 split
 ·simp
 ·split
  ·simp
  ·split
   ·simp
   ·have j:(cutAt b.ent (jT (b.ent.map fE) (t,x)).toNat).length<=b.ent.length:=by
     unfold cutAt;rw [aH,bf,List.length_drop];omega
    split
    ·exact⟨j,by simp⟩
    ·have q:=qP t (cutAt b.ent (jT (b.ent.map fE) (t,x)).toNat) (cutAt b.ent (jT (b.ent.map fE) (t,x)).toNat).length;exact⟨by rw [show ((jk t _ _).1.length)=_ from q.1]; exact j,ah q.2 j⟩
theorem zU {W x:aA} {b j:Nat} {cs:Array aG} {t:TypeId} (h:dN W b cs t) (q:Below j W x) (r:b<j):dN x b cs t:=(q.block b r).trans h
def oV (W:Nat) (u:aG) (c d c2 j:Int) (av:aG) (G:Nat) (p:Addr) (jw:Int) (po:OA) (r q:Nat) (fr:Int) (up:Bool) (b3 F:Nat) (i:Nat) (v:aG) (x:aA):Prop :=
 match i with
 | 0=>v=u
 | 1=>v=aj (O ⟨b3,2,L⟩)
 | 2=>v=av
 | 3=>v=u
 | 4=>v=aj (O ⟨F,1,L⟩)
 | 5=>v=nP (c,d)
 | 6=>v=U V (G:Int)
 | 7=>v=aj (O p)
 | 8=>v=aj (O ⟨p.block,p.off+3,L⟩)
 | 9=>v=U V jw
 | 10=>v=qd (c,d,c2,j,(po,r,q),fr,up)
 | 11=>v=aX #[U V 3,U V c,U V d,U V c2,U V j,J po r q,J L 0 0]
 | 12=>v=vP (jw,3,c,d,c2,j,(po,r,q),(L,0,0))
 | 13=>kF x W v [(jw,3,c,d,c2,j,(po,r,q),(L,0,0))]
 | 15=>kF x W v [(jw,3,c,d,c2,j,(po,r,q),(L,0,0))]
 | _=>True
def oF (W:aA) (q:Nat) (r:Array aG) (D:Nat->Prop) (x:aA):Prop :=
 (∀ j,j<W.heap.size->j≠q->x.heap[j]?=W.heap[j]?)/\(∀ B,B<=q->Below B W x)/\(¬ D 14->Below W.heap.size W x)/\(D 14->dN x q r 30)/\W.heap.size<=x.heap.size
noncomputable def afb:Code:=((Tryz.f19.body.bind (eX 5)).getD .skip)
theorem ai1 (Q:Exit->Act->aA->Prop) (W:aA) (b3 bM I cD:Nat) (me mk c d c2 M fr jw:Int) (up:Bool) (b4 H b5 b6 b7:OA) (a8 a1 G F aE a2 b1 a6 b2 a7:Nat) (po f7:OA) (S N f6 f5:Nat) (cM:List ku) (bP:Nat) (p:Addr) (z0 hD hE z3 z4 z5:aG) {fL fN u2 h5 u7 u9 fR u11 fS u13 fV fW fX fY g0 g1 g2 g3 g4 g5 g6 g7 g8 g9 gA gC gE gI gO gR gS h0 h1 h2 h3 h4 h6:aG}
  (bC:dN W b3 #[U V me,J b4 a8 a1,J H G F,J b5 aE a2,J b6 b1 a6,J b7 b2 a7] 30) (d0:dN W bM #[U V mk,U V c,U V d,U V c2,U V M,J po S N,J f7 f6 f5] 43) (d1:dN W I #[z0,hD,hE,z3,z4,z5] 30) (d2:dN W cD #[U V c,U V d,U V c2,U V M,J po S N,U V fr,.bool up] 67) (d7:b3≠I) (d8:bM≠I) (d9:cD≠I) (d4:zx W (J H G F) cM) (cX:fQ (cM.map fun y=>(y.1,y.2.1)) (c,d)=bP) (d6:∀ w,(Instr.indexAt 25 (J H G F) (U V (bP:Int))).run Z w=.ok (aj (O p)) w) (dE:W.cell? ⟨p.block,p.off+3,L⟩=O (U V jw)) (dA:p.block<W.heap.size) (dC:p.block≠I)
  (d3:∀ (a:Act) (x:aA) (sl:Sl),a.defers=[]->a.tmps[6]?=O (aj (O ⟨I,0,L⟩))->a.tmps[7]?=O (eu sl)->dN x I #[U V me,J b4 a8 a1,J H G F,J b5 aE a2,J b6 b1 a6,J b7 b2 a7] 30->kF x W.heap.size (eu sl) [(jw,3,c,d,c2,M,(po,S,N),(L,0,0))]->(∀ k,k<W.heap.size->k≠I->x.heap[k]?=W.heap[k]?)->(∀ B,B<=I->Below B W x)->Q .normal a x) :
  Code.wp Z afb Q ⟨(fL::fN::u2::aj (O ⟨b3,0,L⟩)::h5::aj (O ⟨bM,0,L⟩)::aj (O ⟨I,0,L⟩)::u7::aj (O ⟨cD,0,L⟩)::u9::fR::u11::fS::u13::fV::fW::fX::fY::g0::g1::g2::g3::g4::g5::g6::g7::g8::g9::gA::gC::gE::gI::gO::gR::gS::h0::h1::h2::h3::h4::h6::[]).toArray,[]⟩ W:=by
 have cV:=A d3;have bX:=A bC;have cS:=A d0;have c6:=A d1;have cU:=A d2;have cL:=A d7;have e1:=A d8;have e2:=A d9;have dZ:=A d4;have dT:=A cX;have e0:=A d6;have e5:=A dE;have e3:=A dA;have e4:=A dC;clear d3 bC d0 d1 d2 d7 d8 d9 d4 cX d6 dE dA dC;unfold afb
 conv=>arg 2; whnf
 have nd:∀ j,(∀ i,i<16->[O 27,O 28,O 29,O 30,O 31,O 32,O 33,O 34,O 35,O 36,O 37,O 38,O 39,O 40,L,O 7].getD i L≠O j)->∀ i,i<16->(fun i=>[O 27,O 28,O 29,O 30,O 31,O 32,O 33,O 34,O 35,O 36,O 37,O 38,O 39,O 40,L,O 7].getD i L) i≠O j:=fun j h=>h;refine Rg.pO 16 (fun i=>[O 27,O 28,O 29,O 30,O 31,O 32,O 33,O 34,O 35,O 36,O 37,O 38,O 39,O 40,L,O 7].getD i L) (fun _=>16) (oV W.heap.size (aX #[U V me,J b4 a8 a1,J H G F,J b5 aE a2,J b6 b1 a6,J b7 b2 a7]) c d c2 M (J H G F) bP p jw po S N fr up b3 bM) (oF W I #[U V me,J b4 a8 a1,J H G F,J b5 aE a2,J b6 b1 a6,J b7 b2 a7]) (by kernel_rfl) (by kernel_rfl) rfl (fun i j e cG T cF bT=>(by decide:∀ i,i<16->∀ j,j<16->([O 27,O 28,O 29,O 30,O 31,O 32,O 33,O 34,O 35,O 36,O 37,O 38,O 39,O 40,L,O 7].getD i L).isSome=bV->[O 27,O 28,O 29,O 30,O 31,O 32,O 33,O 34,O 35,O 36,O 37,O 38,O 39,O 40,L,O 7].getD i L=[O 27,O 28,O 29,O 30,O 31,O 32,O 33,O 34,O 35,O 36,O 37,O 38,O 39,O 40,L,O 7].getD j L->i=j) i cG j T (by have cF:[O 27,O 28,O 29,O 30,O 31,O 32,O 33,O 34,O 35,O 36,O 37,O 38,O 39,O 40,L,O 7].getD i L=O e:=cF; rw [cF]; rfl) (cF.trans bT.symm)) (fun i e cG h=>(by decide:∀ i,i<16->∀ q∈[O 27,O 28,O 29,O 30,O 31,O 32,O 33,O 34,O 35,O 36,O 37,O 38,O 39,O 40,L,O 7].getD i L,q<41) i cG e h) ⟨fun _ _ _=>rfl,fun _ _=>(aB _ _).drew,fun _=>(aB _ _).drew,False.elim,aD _⟩ ?_ ?_
 ·intro i o cG b9 a x D bW bE hF r seen K b8;clear cV;have bI:∀ i,i≠14->oF W I #[U V me,J b4 a8 a1,J H G F,J b5 aE a2,J b6 b1 a6,J b7 b2 a7] (fun j=>j=i\/D j) x:=fun i eV=>⟨r.1,r.2.1,fun h=>r.2.2.1 fun bT=>h (aF bT),fun h=>r.2.2.2.1 (h.resolve_left (Ne.symm eV)),r.2.2.2.2⟩;rcases (by omega:i=0\/i=1\/i=2\/i=3\/i=4\/i=5\/i=6\/i=7\/i=8\/i=9\/i=10\/i=11\/i=12\/i=13\/i=14\/i=15) with rfl|rfl|rfl|rfl|rfl|rfl|rfl|rfl|rfl|rfl|rfl|rfl|rfl|rfl|rfl|rfl
  ·cases b9;have c8:a.eval (ay 3)=aj (O ⟨b3,0,L⟩):=seen.kp 3 _ (nd 3 (by decide)) rfl;have c7:=show dN x _ _ _ from (r.1 _ bX.o.lt cL.o).trans bX.o;exact aO rfl rfl (dB a.eval _ 30 (ay 3) rfl (by rw [c8]; exact sN c7)) (b8 _ _ rfl (bI 0 (by decide)) fun _ _ _ _ _ _ _ h=>h)
  ·cases b9;have c8:a.eval (ay 3)=aj (O ⟨b3,0,L⟩):=seen.kp 3 _ (nd 3 (by decide)) rfl;exact aO rfl rfl (Rg.dY a.eval _ 30 (ay 3) 2 rfl (by rw [c8]; simp [go_sem])) (b8 _ _ rfl (bI 1 (by decide)) fun _ _ _ _ _ _ _ h=>h)
  ·cases b9;have e8:a.eval (ay 28)=aj (O ⟨b3,2,L⟩):=seen.at_ ⟨1,.data⟩ (by simp) rfl (aF (by decide)) _ rfl;have c7:=show dN x _ _ _ from (r.1 _ bX.o.lt cL.o).trans bX.o;have y:=c7.cell 2;simp only [aL,aQ,aR] at y;exact aO rfl rfl (dB a.eval _ 25 (ay 28) rfl (by rw [e8]; simp [go_sem,y])) (b8 _ _ rfl (bI 2 (by decide)) fun _ _ _ _ _ _ _ h=>h)
  ·cases b9;have c8:a.eval (ay 3)=aj (O ⟨b3,0,L⟩):=seen.kp 3 _ (nd 3 (by decide)) rfl;have c7:=show dN x _ _ _ from (r.1 _ bX.o.lt cL.o).trans bX.o;exact aO rfl rfl (dB a.eval _ 30 (ay 3) rfl (by rw [c8]; exact sN c7)) (b8 _ _ rfl (bI 3 (by decide)) fun _ _ _ _ _ _ _ h=>h)
  ·cases b9;have eQ:a.eval (ay 5)=aj (O ⟨bM,0,L⟩):=seen.kp 5 _ (nd 5 (by decide)) rfl;exact aO rfl rfl (Rg.dY a.eval _ 43 (ay 5) 1 rfl (by rw [eQ]; simp [go_sem])) (b8 _ _ rfl (bI 4 (by decide)) fun _ _ _ _ _ _ _ h=>h)
  ·cases b9;have eB:a.eval (ay 31)=aj (O ⟨bM,1,L⟩):=seen.at_ ⟨4,.data⟩ (by simp) rfl (aF (by decide)) _ rfl;have cW:=show dN x _ _ _ from (r.1 _ cS.o.lt e1.o).trans cS.o;have cI:=cW.cell 1;have cJ:=cW.cell 2;simp only [aL,aQ,aR] at cI cJ;exact aO rfl rfl (dB a.eval _ 23 (ay 31) rfl (by rw [eB]; simp [go_sem,cI,cJ])) (b8 _ _ rfl (bI 5 (by decide)) fun _ _ _ _ _ _ _ h=>h)
  ·cases b9;have eA:a.eval (ay 30)=aX #[U V me,J b4 a8 a1,J H G F,J b5 aE a2,J b6 b1 a6,J b7 b2 a7]:=seen.at_ ⟨3,.data⟩ (by simp) rfl (aF (by decide)) _ rfl;have eC:a.eval (ay 32)=nP (c,d):=seen.at_ ⟨5,.data⟩ (by simp) rfl (aF (by decide)) _ rfl;have cA:¬ D 14:=fun h=>bW (bE 11 _ (bE 14 _ h rfl ⟨11,.chain⟩ (by simp) rfl) rfl ⟨6,.chain⟩ (by simp) rfl);have bA:=r.2.2.1 cA;have c9:¬ D 13:=fun h=>bW (bE 11 _ (bE 12 _ (bE 13 _ h rfl ⟨12,.data⟩ (by simp) rfl) rfl ⟨11,.data⟩ (by simp) rfl) rfl ⟨6,.chain⟩ (by simp) rfl);exact Rg.gK rfl rfl (nQ a.eval _ (ay 30) (ay 32) 30 23 60 rfl eA eC rfl _ (gB Tryz.func60 rfl rfl _ _)) (wW me _ _ _ _ (H,G,F) cM (c,d) x (dZ.o.on bA)) fun e w1 h=>by
    obtain⟨rfl,bC⟩:=h;refine⟨_,rfl,b8 _ _ (by rw [dT.o]; rfl) ⟨fun j T bO=>(bC.block j (bG T bA.size)).trans (r.1 j T bO),fun B hB=>(r.2.1 B hB).trans (bC.mono (ah (ah hB (aU c6.o.lt)) bA.size)),fun _=>bA.trans (bC.mono bA.size),fun h=>absurd (h.resolve_left (by decide)) cA,ah bA.size bC.size⟩ fun j u T bB _ _ _ h=>?_⟩;rcases (by omega:j=0\/j=1\/j=2\/j=3\/j=4\/j=5\/j=6\/j=7\/j=8\/j=9\/j=10\/j=11\/j=12\/j=13\/j=14\/j=15) with rfl|rfl|rfl|rfl|rfl|rfl|rfl|rfl|rfl|rfl|rfl|rfl|rfl|rfl|rfl|rfl
    ·exact h
    ·exact h
    ·exact h
    ·exact h
    ·exact h
    ·exact h
    ·exact h
    ·exact h
    ·exact h
    ·exact h
    ·exact h
    ·exact h
    ·exact h
    ·exact absurd bB c9
    ·exact h
    ·exact absurd (bE 15 _ bB rfl ⟨13,.data⟩ (by simp) rfl) c9
  ·cases b9;have e9:a.eval (ay 29)=J H G F:=seen.at_ ⟨2,.data⟩ (by simp) rfl (aF (by decide)) _ rfl;have eE:a.eval (ay 33)=U V (bP:Int):=seen.at_ ⟨6,.data⟩ (by simp) rfl (aF (by decide)) _ rfl;exact aO rfl rfl (Rg.qY a.eval _ 25 (ay 29) (ay 33) rfl (by rw [e9,eE]; exact e0.o x)) (b8 _ _ rfl (bI 7 (by decide)) fun _ _ _ _ _ _ _ h=>h)
  ·cases b9;have eI:a.eval (ay 34)=aj (O p):=seen.at_ ⟨7,.data⟩ (by simp) rfl (aF (by decide)) _ rfl;exact aO rfl rfl (Rg.dY a.eval _ 36 (ay 34) 2 rfl (by rw [eI]; simp [go_sem])) (b8 _ _ rfl (bI 8 (by decide)) fun _ _ _ _ _ _ _ h=>h)
  ·cases b9;have eJ:a.eval (ay 35)=aj (O ⟨p.block,p.off+3,L⟩):=seen.at_ ⟨8,.data⟩ (by simp) rfl (aF (by decide)) _ rfl;have y:x.cell? ⟨p.block,p.off+3,L⟩=O (U V jw):=by
    have h:=e5.o;unfold World.cell? at h ⊢;rw [r.1 _ e3.o e4.o];exact h
   exact aO rfl rfl (dB a.eval _ 3 (ay 35) rfl (by rw [eJ]; simp [go_sem,y])) (b8 _ _ rfl (bI 9 (by decide)) fun _ _ _ _ _ _ _ h=>h)
  ·cases b9;have eS:a.eval (ay 8)=aj (O ⟨cD,0,L⟩):=seen.kp 8 _ (nd 8 (by decide)) rfl;have e6:=show dN x _ _ _ from (r.1 _ cU.o.lt e2.o).trans cU.o;obtain⟨h7,cI,cJ,h8,h9,hA,hC⟩:=e6.oz;exact aO rfl rfl (dB a.eval _ 67 (ay 8) rfl (by rw [eS]; simp [go_sem,h7,cI,cJ,h8,h9,hA,hC])) (b8 _ _ rfl (bI 10 (by decide)) fun _ _ _ _ _ _ _ h=>h)
  ·cases b9;have eL:a.eval (ay 37)=qd (c,d,c2,M,(po,S,N),fr,up):=seen.at_ ⟨10,.data⟩ (by simp) rfl (aF (by decide)) _ rfl;have cA:¬ D 14:=fun h=>bW (bE 14 _ h rfl ⟨11,.chain⟩ (by simp) rfl);have bA:=r.2.2.1 cA;have c9:¬ D 13:=fun h=>bW (bE 12 _ (bE 13 _ h rfl ⟨12,.data⟩ (by simp) rfl) rfl ⟨11,.data⟩ (by simp) rfl);exact Rg.gK rfl rfl (jq a.eval _ (ay 37) 67 58 rfl eL rfl _ (gB Tryz.func58 rfl rfl _ _)) (Ec (c,d,c2,M,(po,S,N),fr,up) x) fun e w1 h=>by
    obtain⟨rfl,bC⟩:=h;refine⟨_,rfl,b8 _ _ rfl ⟨fun j T bO=>(bC.block j (bG T bA.size)).trans (r.1 j T bO),fun B hB=>(r.2.1 B hB).trans (bC.mono (ah (ah hB (aU c6.o.lt)) bA.size)),fun _=>bA.trans (bC.mono bA.size),fun h=>absurd (h.resolve_left (by decide)) cA,ah bA.size bC.size⟩ fun j u T bB _ _ _ h=>?_⟩;rcases (by omega:j=0\/j=1\/j=2\/j=3\/j=4\/j=5\/j=6\/j=7\/j=8\/j=9\/j=10\/j=11\/j=12\/j=13\/j=14\/j=15) with rfl|rfl|rfl|rfl|rfl|rfl|rfl|rfl|rfl|rfl|rfl|rfl|rfl|rfl|rfl|rfl
    ·exact h
    ·exact h
    ·exact h
    ·exact h
    ·exact h
    ·exact h
    ·exact h
    ·exact h
    ·exact h
    ·exact h
    ·exact h
    ·exact h
    ·exact h
    ·exact absurd bB c9
    ·exact h
    ·exact absurd (bE 15 _ bB rfl ⟨13,.data⟩ (by simp) rfl) c9
  ·cases b9;have eK:a.eval (ay 36)=U V jw:=seen.at_ ⟨9,.data⟩ (by simp) rfl (aF (by decide)) _ rfl;have eM:a.eval (ay 38)=aX #[U V 3,U V c,U V d,U V c2,U V M,J po S N,J L 0 0]:=seen.at_ ⟨11,.data⟩ (by simp) rfl (aF (by decide)) _ rfl;exact aO rfl rfl (Rg.jd a.eval _ 46 #[(0,ay 36),(1,ay 38)] rfl (ps:=#[(0,U V jw),(1,aX #[U V 3,U V c,U V d,U V c2,U V M,J po S N,J L 0 0])]) (by simp only [bS,cO,dD,eK,eM]) (by simp [go_sem])) (b8 _ _ rfl (bI 12 (by decide)) fun _ _ _ _ _ _ _ h=>h)
  ·cases b9;have eN:a.eval (ay 39)=vP (jw,3,c,d,c2,M,(po,S,N),(L,0,0)):=seen.at_ ⟨12,.data⟩ (by simp) rfl (aF (by decide)) _ rfl;have cQ:¬ D 15:=fun h=>bW (bE 15 _ h rfl ⟨13,.data⟩ (by simp) rfl);have f0:=jL Ic x [((jw,3,c,d,c2,M,(po,S,N),(L,0,0)):nu)] 1 rfl (by simp) (jW (jw,3,c,d,c2,M,(po,S,N),(L,0,0))).toArray (by simp [flat,EU]);have cC:=fP x (au (jW (jw,3,c,d,c2,M,(po,S,N),(L,0,0))).toArray 46);have sz:=r.2.2.2.2;have cN:oF W I #[U V me,J b4 a8 a1,J H G F,J b5 aE a2,J b6 b1 a6,J b7 b2 a7] (fun j=>j=13\/D j) (x.alloc (au (jW (jw,3,c,d,c2,M,(po,S,N),(L,0,0))).toArray 46)):=⟨fun j T bO=>(cC.block j (bG T sz)).trans (r.1 j T bO),fun B hB=>(r.2.1 B hB).trans (cC.mono (ah (ah hB (aU c6.o.lt)) sz)),fun h=>(r.2.2.1 fun q=>h (aF q)).trans (cC.mono sz),fun h=>(r.2.2.2.1 (h.resolve_left (by decide))).on cC,ah sz cC.size⟩;have st:∀ j u,j<16->D j->j≠13->oV W.heap.size (aX #[U V me,J b4 a8 a1,J H G F,J b5 aE a2,J b6 b1 a6,J b7 b2 a7]) c d c2 M (J H G F) bP p jw po S N fr up b3 bM j u x->oV W.heap.size (aX #[U V me,J b4 a8 a1,J H G F,J b5 aE a2,J b6 b1 a6,J b7 b2 a7]) c d c2 M (J H G F) bP p jw po S N fr up b3 bM j u (x.alloc (au (jW (jw,3,c,d,c2,M,(po,S,N),(L,0,0))).toArray 46)):=fun j u T bB cR h=>by
    rcases (by omega:j=0\/j=1\/j=2\/j=3\/j=4\/j=5\/j=6\/j=7\/j=8\/j=9\/j=10\/j=11\/j=12\/j=13\/j=14\/j=15) with rfl|rfl|rfl|rfl|rfl|rfl|rfl|rfl|rfl|rfl|rfl|rfl|rfl|rfl|rfl|rfl
    ·exact h
    ·exact h
    ·exact h
    ·exact h
    ·exact h
    ·exact h
    ·exact h
    ·exact h
    ·exact h
    ·exact h
    ·exact h
    ·exact h
    ·exact h
    ·exact absurd rfl cR
    ·exact h
    ·exact absurd bB cQ
   have q:=b8 (J (O ⟨x.heap.size,0,L⟩) 1 1) (x.alloc (au (jW (jw,3,c,d,c2,M,(po,S,N),(L,0,0))).toArray 46)) (dO f0 sz) cN fun j u T bB _ _ cR h=>st j u T bB cR h;exact aO rfl rfl (Rg.iX a.eval _ 37 1 #[(0,ay 39)] rfl (ps:=#[(0,vP (jw,3,c,d,c2,M,(po,S,N),(L,0,0)))]) (by simp [eN]) (by simp [go_sem])) q
  ·cases b9;have e7:a.eval (ay 27)=aX #[U V me,J b4 a8 a1,J H G F,J b5 aE a2,J b6 b1 a6,J b7 b2 a7]:=seen.at_ ⟨0,.data⟩ (by simp) rfl (aF (by decide)) _ rfl;have eR:a.eval (ay 6)=aj (O ⟨I,0,L⟩):=seen.kp 6 _ (nd 6 (by decide)) rfl;have bA:=r.2.2.1 bW;have cT:=c6.o.on bA;have s4:=dP x I (U V me) (J b4 a8 a1) (J H G F) (J b5 aE a2) (J b6 b1 a6) (J b7 b2 a7);have f1:=dM cT (U V me) (J b4 a8 a1) (J H G F) (J b5 aE a2) (J b6 b1 a6) (J b7 b2 a7);have cP:=o7 cT me b4 H b5 b6 b7 a8 a1 G F aE a2 b1 a6 b2 a7;have f2:∀ B,B<=I->Below B W (gH x I (U V me) (J b4 a8 a1) (J H G F) (J b5 aE a2) (J b6 b1 a6) (J b7 b2 a7)):=fun B hB=>dJ (r.2.1 B hB) hB _ _ _ _ _ _;have f9:∀ v l,kF x W.heap.size v l->kF (gH x I (U V me) (J b4 a8 a1) (J H G F) (J b5 aE a2) (J b6 b1 a6) (J b7 b2 a7)) W.heap.size v l:=fun v l h=>fJ h I c6.o.lt _ _ _ _ _ _;have sz:x.heap.size<=(gH x I (U V me) (J b4 a8 a1) (J H G F) (J b5 aE a2) (J b6 b1 a6) (J b7 b2 a7)).heap.size:=by simp [gH]
   generalize gH x I (U V me) (J b4 a8 a1) (J H G F) (J b5 aE a2) (J b6 b1 a6) (J b7 b2 a7)=cH at *;have cQ:¬ D 15:=fun h=>bW (bE 15 _ h rfl ⟨14,.chain⟩ (by simp) rfl);have cN:oF W I #[U V me,J b4 a8 a1,J H G F,J b5 aE a2,J b6 b1 a6,J b7 b2 a7] (fun j=>j=14\/D j) cH:=⟨fun j T bO=>(s4 j bO).trans (r.1 j T bO),f2,fun h=>absurd (Or.inl rfl) h,fun _=>f1,ah r.2.2.2.2 sz⟩;have st:∀ j u,j<16->D j->oV W.heap.size (aX #[U V me,J b4 a8 a1,J H G F,J b5 aE a2,J b6 b1 a6,J b7 b2 a7]) c d c2 M (J H G F) bP p jw po S N fr up b3 bM j u x->oV W.heap.size (aX #[U V me,J b4 a8 a1,J H G F,J b5 aE a2,J b6 b1 a6,J b7 b2 a7]) c d c2 M (J H G F) bP p jw po S N fr up b3 bM j u cH:=fun j u T bB h=>by
    rcases (by omega:j=0\/j=1\/j=2\/j=3\/j=4\/j=5\/j=6\/j=7\/j=8\/j=9\/j=10\/j=11\/j=12\/j=13\/j=14\/j=15) with rfl|rfl|rfl|rfl|rfl|rfl|rfl|rfl|rfl|rfl|rfl|rfl|rfl|rfl|rfl|rfl
    ·exact h
    ·exact h
    ·exact h
    ·exact h
    ·exact h
    ·exact h
    ·exact h
    ·exact h
    ·exact h
    ·exact h
    ·exact h
    ·exact h
    ·exact h
    ·exact f9 _ _ h
    ·exact h
    ·exact absurd bB cQ
   have q:=b8 (.bool bV) cH trivial cN fun j u T bB _ _ _ h=>st j u T bB h;have f4:K a cH:=q;exact Rg.gq 30 (ay 6) (ay 27) rfl rfl rfl rfl eR e7 cP f4
  ·cases b9;have f3:kF x W.heap.size (a.eval (ay 40)) [(jw,3,c,d,c2,M,(po,S,N),(L,0,0))]:=seen.at_ ⟨13,.data⟩ (by simp) rfl (aF (by decide)) _ rfl;exact aO rfl rfl (Rg.kG a.eval _ (ay 40) rfl x) (b8 _ _ f3 (bI 15 (by decide)) fun _ _ _ _ _ _ _ h=>h)
 ·intro a x df sz kp ⟨dS,d5⟩ ⟨D,eW,r⟩;have bT:kF x W.heap.size (dS 15) [(jw,3,c,d,c2,M,(po,S,N),(L,0,0))]:=(d5 15 (by omega)).2 (by decide);have cY:a.tmps[7]?=O (dS 15):=(d5 15 (by omega)).1 7 rfl;obtain⟨f8,sc,cP⟩:=(aW bT).len;rw [cP] at bT cY;exact cV.o a x (f8,_,sc) df ((kp 6 (nd 6 (by decide))).trans rfl) cY (r.2.2.2.1 (eW 14 (by omega))) bT r.1 r.2.1
def dV (W q:Nat) (r u:aG) (jw c d c2 j:Int) (lo:List nu) (i:Nat) (v:aG) (x:aA):Prop :=
 match i with
 | 0=>v=r
 | 1=>v=u
 | 2=>v=U V jw
 | 3=>v=nP (c,d)
 | 4=>v=nP (c2,j)
 | 5=>v=aX #[U V 4,U V c,U V d,U V c2,U V j,J L 0 0,J L 0 0]
 | 6=>v=vP (jw,4,c,d,c2,j,(L,0,0),(L,0,0))
 | 7=>kF x W v [(jw,4,c,d,c2,j,(L,0,0),(L,0,0))]
 | 8=>∃ sl:Sl,v=eu sl/\kF x q v (lo++[(jw,4,c,d,c2,j,(L,0,0),(L,0,0))])
 | 10=>∃ sl:Sl,v=eu sl/\kF x q v (lo++[(jw,4,c,d,c2,j,(L,0,0),(L,0,0))])
 | _=>True
def dF (W:aA) (r F G H q:Nat) (u:Array aG) (c d c2 I:Int) (D:Nat->Prop) (x:aA):Prop :=
 (dN x F u 30/\dN x G #[U V c,U V d] 23/\dN x H #[U V c2,U V I] 23)/\(¬ D 8->Below W.heap.size W x)/\(¬ D 9->Below r W x)/\(D 9->dN x q u 30/\(∀ j,j<r->j≠q->x.heap[j]?=W.heap[j]?)/\∀ B,B<=q->Below B W x)
noncomputable def TU:Code:=((Tryz.f59.body.bind (eX 11)).getD .skip)
theorem aal (Q:Exit->Act->aA->Prop) (W:aA) (G bB bC bE H:Nat) (me jw c d c2 F:Int) (aE b1 b2 b4 b5:OA) (a1 I a2 M a6 N a7 S a8 T:Nat) (bO:aG) (lo:List nu) (z0 hT hU z3 z4 z5:aG) {fV fW u2 u3 u7 u9 fX u11 fY g0 g1 g2 g3 g4 g5 g6 g7 g8 g9 gA gC gE gI gO gR gS h0 h1 h2 h3 h4 h5 h6 h7 h8 h9 hA hC hD hE hF hG hH hI hJ hK hL hM hN hO hP hQ hR:aG}
  (cX:dN W bB #[U V me,J aE a1 I,J b1 a2 M,J b2 a6 N,J b4 a7 S,J b5 a8 T] 30) (cY:dN W bC #[U V c,U V d] 23) (d1:dN W bE #[U V c2,U V F] 23) (cL:dN W H #[z0,hT,hU,z3,z4,z5] 30) (d6:bB<G) (d7:bC<G) (d8:bE<G) (d9:H<G) (dA:bB≠H) (dC:bC≠H) (dE:bE≠H) (cW:G<=W.heap.size) (d4:kF W G bO lo) (d3:lo.length<=1000)
  (d2:∀ (a:Act) (x:aA) (sl:Sl),a.defers=[]->a.tmps[8]?=O (aj (O ⟨H,0,L⟩))->a.tmps[9]?=O (eu sl)->dN x H #[U V me,J aE a1 I,J b1 a2 M,J b2 a6 N,J b4 a7 S,J b5 a8 T] 30->kF x G (eu sl) (lo++[(jw,4,c,d,c2,F,(L,0,0),(L,0,0))])->(∀ k,k<G->k≠H->x.heap[k]?=W.heap[k]?)->(∀ B,B<=H->Below B W x)->Q .normal a x) :
  Code.wp Z TU Q ⟨(fV::fW::u2::u3::aj (O ⟨bB,0,L⟩)::aj (O ⟨bC,0,L⟩)::aj (O ⟨bE,0,L⟩)::u7::aj (O ⟨H,0,L⟩)::u9::fX::u11::U V jw::bO::fY::g0::g1::g2::g3::g4::g5::g6::g7::g8::g9::gA::gC::gE::gI::gO::gR::gS::h0::h1::h2::h3::h4::h5::h6::h7::h8::h9::hA::hC::hD::hE::hF::hG::hH::hI::hJ::hK::hL::hM::hN::hO::hP::hQ::hR::[]).toArray,[]⟩ W:=by
 have cU:=A d2;have cP:=A cX;have cQ:=A cY;have cR:=A d1;have e0:=A cL;have e2:=A d6;have e3:=A d7;have e4:=A d8;have cI:=A d9;have e5:=A dA;have e6:=A dC;have e7:=A dE;have c9:=A cW;have cT:=A d4;have e1:=A d3;clear d2 cX cY d1 cL d6 d7 d8 d9 dA dC dE cW d4 d3;unfold TU
 conv=>arg 2; whnf
 have nd:∀ j,(∀ i,i<11->[O 50,O 51,O 52,O 53,O 54,O 55,O 56,O 57,O 58,L,O 9].getD i L≠O j)->∀ i,i<11->(fun i=>[O 50,O 51,O 52,O 53,O 54,O 55,O 56,O 57,O 58,L,O 9].getD i L) i≠O j:=fun j h=>h;refine Rg.pO 11 (fun i=>[O 50,O 51,O 52,O 53,O 54,O 55,O 56,O 57,O 58,L,O 9].getD i L) (fun i=>if i=7 then 8 else 11) (dV W.heap.size G (aX #[U V me,J aE a1 I,J b1 a2 M,J b2 a6 N,J b4 a7 S,J b5 a8 T]) bO jw c d c2 F lo) (dF W G bB bC bE H #[U V me,J aE a1 I,J b1 a2 M,J b2 a6 N,J b4 a7 S,J b5 a8 T] c d c2 F) (by kernel_rfl) (by kernel_rfl) rfl (fun i j e cC b8 bP bM=>(by decide:∀ i,i<11->∀ j,j<11->([O 50,O 51,O 52,O 53,O 54,O 55,O 56,O 57,O 58,L,O 9].getD i L).isSome=bV->[O 50,O 51,O 52,O 53,O 54,O 55,O 56,O 57,O 58,L,O 9].getD i L=[O 50,O 51,O 52,O 53,O 54,O 55,O 56,O 57,O 58,L,O 9].getD j L->i=j) i cC j b8 (by have bP:[O 50,O 51,O 52,O 53,O 54,O 55,O 56,O 57,O 58,L,O 9].getD i L=O e:=bP; rw [bP]; rfl) (bP.trans bM.symm)) (fun i e cC h=>(by decide:∀ i,i<11->∀ q∈[O 50,O 51,O 52,O 53,O 54,O 55,O 56,O 57,O 58,L,O 9].getD i L,q<59) i cC e h) ⟨⟨cP.o,cQ.o,cR.o⟩,fun _=>(aB _ _).drew,fun _=>(aB _ _).drew,False.elim⟩ ?_ ?_
 ·intro i o cC bA a x D c6 bX f2 b6 seen K b9;clear cU;have bW:∀ i,i≠8->i≠9->dF W G bB bC bE H #[U V me,J aE a1 I,J b1 a2 M,J b2 a6 N,J b4 a7 S,J b5 a8 T] c d c2 F (fun j=>j=i\/D j) x:=fun i cL f1=>⟨b6.1,fun h=>b6.2.1 fun bM=>h (aF bM),fun h=>b6.2.2.1 fun bM=>h (aF bM),fun h=>b6.2.2.2 (h.resolve_left (Ne.symm f1))⟩;rcases (by omega:i=0\/i=1\/i=2\/i=3\/i=4\/i=5\/i=6\/i=7\/i=8\/i=9\/i=10) with rfl|rfl|rfl|rfl|rfl|rfl|rfl|rfl|rfl|rfl|rfl
  ·cases bA;have eE:a.eval (ay 4)=aj (O ⟨bB,0,L⟩):=seen.kp 4 _ (nd 4 (by decide)) rfl;exact aO rfl rfl (dB a.eval _ 30 (ay 4) rfl (by rw [eE]; exact sN b6.1.1)) (b9 _ _ rfl (bW 0 (by decide) (by decide)) fun _ _ _ _ _ _ _ h=>h)
  ·cases bA;have eA:a.eval (ay 13)=bO:=seen.kp 13 _ (nd 13 (by decide)) rfl;exact aO rfl rfl (Rg.gF a.eval _ (ay 13) rfl x) (b9 _ _ eA (bW 1 (by decide) (by decide)) fun _ _ _ _ _ _ _ h=>h)
  ·cases bA;have e9:a.eval (ay 12)=U V jw:=seen.kp 12 _ (nd 12 (by decide)) rfl;exact aO rfl rfl (Rg.gF a.eval _ (ay 12) rfl x) (b9 _ _ e9 (bW 2 (by decide) (by decide)) fun _ _ _ _ _ _ _ h=>h)
  ·cases bA;have eI:a.eval (ay 5)=aj (O ⟨bC,0,L⟩):=seen.kp 5 _ (nd 5 (by decide)) rfl;exact aO rfl rfl (dB a.eval _ 23 (ay 5) rfl (by rw [eI]; exact IY x _ (c,d) (Te b6.1.2.1))) (b9 _ _ rfl (bW 3 (by decide) (by decide)) fun _ _ _ _ _ _ _ h=>h)
  ·cases bA;have eS:a.eval (ay 6)=aj (O ⟨bE,0,L⟩):=seen.kp 6 _ (nd 6 (by decide)) rfl;exact aO rfl rfl (dB a.eval _ 23 (ay 6) rfl (by rw [eS]; exact IY x _ (c2,F) (Te b6.1.2.2))) (b9 _ _ rfl (bW 4 (by decide) (by decide)) fun _ _ _ _ _ _ _ h=>h)
  ·cases bA;have eM:a.eval (ay 53)=nP (c,d):=seen.at_ ⟨3,.data⟩ (by simp) rfl (aF (by decide)) _ rfl;have eN:a.eval (ay 54)=nP (c2,F):=seen.at_ ⟨4,.data⟩ (by simp) rfl (aF (by decide)) _ rfl;exact aO rfl rfl (Rg.jd a.eval _ 43 #[(0,.const (U V 4)),(1,ay 53),(2,ay 54)] rfl (ps:=#[(0,U V 4),(1,nP (c,d)),(2,nP (c2,F))]) (by simp only [bS,cO,dD,eM,eN]; rfl) (by simp [go_sem])) (b9 _ _ rfl (bW 5 (by decide) (by decide)) fun _ _ _ _ _ _ _ h=>h)
  ·cases bA;have eL:a.eval (ay 52)=U V jw:=seen.at_ ⟨2,.data⟩ (by simp) rfl (aF (by decide)) _ rfl;have eQ:a.eval (ay 55)=aX #[U V 4,U V c,U V d,U V c2,U V F,J L 0 0,J L 0 0]:=seen.at_ ⟨5,.data⟩ (by simp) rfl (aF (by decide)) _ rfl;exact aO rfl rfl (Rg.jd a.eval _ 46 #[(0,ay 52),(1,ay 55)] rfl (ps:=#[(0,U V jw),(1,aX #[U V 4,U V c,U V d,U V c2,U V F,J L 0 0,J L 0 0])]) (by simp only [bS,cO,dD,eL,eQ]) (by simp [go_sem])) (b9 _ _ rfl (bW 6 (by decide) (by decide)) fun _ _ _ _ _ _ _ h=>h)
  ·cases bA;have eR:a.eval (ay 56)=vP (jw,4,c,d,c2,F,(L,0,0),(L,0,0)):=seen.at_ ⟨6,.data⟩ (by simp) rfl (aF (by decide)) _ rfl;have cD:¬ D 8:=fun h=>c6 (bX 8 _ h rfl ⟨7,.data⟩ (by simp) rfl);have cN:¬ D 9:=fun h=>cD (bX 9 _ h rfl ⟨8,.chain⟩ (by simp) rfl);have b7:=b6.2.1 cD;have f4:=jL Ic x [((jw,4,c,d,c2,F,(L,0,0),(L,0,0)):nu)] 1 rfl (by simp) (jW (jw,4,c,d,c2,F,(L,0,0),(L,0,0))).toArray (by simp [flat,EU]);have c7:=fP x (au (jW (jw,4,c,d,c2,F,(L,0,0),(L,0,0))).toArray 46);exact aO rfl rfl (Rg.iX a.eval _ 37 1 #[(0,ay 56)] rfl (ps:=#[(0,vP (jw,4,c,d,c2,F,(L,0,0),(L,0,0)))]) (by simp [eR]) (by simp [go_sem])) (b9 (J (O ⟨x.heap.size,0,L⟩) 1 1) (x.alloc (au (jW (jw,4,c,d,c2,F,(L,0,0),(L,0,0))).toArray 46)) (dO f4 b7.size) ⟨⟨b6.1.1.on c7,b6.1.2.1.on c7,b6.1.2.2.on c7⟩,fun _=>b7.trans (c7.mono b7.size),fun _=>(b7.trans (c7.mono b7.size)).mono c9.o,fun h=>absurd (h.resolve_left (by decide)) cN⟩ fun j u b8 bI cF cG bT h=>by
    rcases (by omega:j=0\/j=1\/j=2\/j=3\/j=4\/j=5\/j=6\/j=7\/j=8\/j=9\/j=10) with rfl|rfl|rfl|rfl|rfl|rfl|rfl|rfl|rfl|rfl|rfl
    ·exact h
    ·exact h
    ·exact h
    ·exact h
    ·exact h
    ·exact h
    ·exact h
    ·exact absurd rfl bT
    ·exact absurd bI cD
    ·exact h
    ·exact absurd (bX 10 _ bI rfl ⟨8,.data⟩ (by simp) rfl) cD)
  ·cases bA;have eK:a.eval (ay 51)=bO:=seen.at_ ⟨1,.data⟩ (by simp) rfl (aF (by decide)) _ rfl;have fL:kF x W.heap.size (a.eval (ay 57)) [(jw,4,c,d,c2,F,(L,0,0),(L,0,0))]:=seen.at_ ⟨7,.data⟩ (by simp) rfl (Or.inl rfl) _ rfl;have b7:=b6.2.1 c6;have cN:¬ D 9:=fun h=>c6 (bX 9 _ h rfl ⟨8,.chain⟩ (by simp) rfl);have cM:¬ D 10:=fun h=>c6 (bX 10 _ h rfl ⟨8,.data⟩ (by simp) rfl);obtain⟨dZ,c8,r,dS,f0⟩:=iC Ic G (Bk.dK cT.o b7) (aW fL) e1.o (by simp) (ah c9.o b7.size) 37;obtain⟨fR,sc,f7⟩:=(aW dS).len;have cA:Below G W c8:=(b7.mono c9.o).grown f0 (ah c9.o b7.size) fun j b8=>((Bk.dK cT.o b7).lt j b8).1;have hS:dV W.heap.size G (aX #[U V me,J aE a1 I,J b1 a2 M,J b2 a6 N,J b4 a7 S,J b5 a8 T]) bO jw c d c2 F lo 8 dZ c8:=⟨(fR,(lo++[(jw,4,c,d,c2,F,(L,0,0),(L,0,0))]).length,sc),f7,dS⟩;have cJ:dF W G bB bC bE H #[U V me,J aE a1 I,J b1 a2 M,J b2 a6 N,J b4 a7 S,J b5 a8 T] c d c2 F (fun j=>j=8\/D j) c8:=⟨⟨zU cP.o cA e2.o,zU cQ.o cA e3.o,zU cR.o cA e4.o⟩,fun h=>absurd (Or.inl rfl) h,fun _=>cA,fun h=>absurd (h.resolve_left (by decide)) cN⟩;have st:∀ j u,j<11->D j->(fun i=>if i=7 then 8 else 11) j≠8->j≠8->dV W.heap.size G (aX #[U V me,J aE a1 I,J b1 a2 M,J b2 a6 N,J b4 a7 S,J b5 a8 T]) bO jw c d c2 F lo j u x->dV W.heap.size G (aX #[U V me,J aE a1 I,J b1 a2 M,J b2 a6 N,J b4 a7 S,J b5 a8 T]) bO jw c d c2 F lo j u c8:=fun j u b8 bI cG bT h=>by
    rcases (by omega:j=0\/j=1\/j=2\/j=3\/j=4\/j=5\/j=6\/j=7\/j=8\/j=9\/j=10) with rfl|rfl|rfl|rfl|rfl|rfl|rfl|rfl|rfl|rfl|rfl
    ·exact h
    ·exact h
    ·exact h
    ·exact h
    ·exact h
    ·exact h
    ·exact h
    ·exact absurd rfl cG
    ·exact absurd rfl bT
    ·exact h
    ·exact absurd bI cM
   have q:=b9 dZ c8 hS cJ fun j u b8 bI _ cG bT h=>st j u b8 bI cG bT h;exact aO rfl rfl (Rg.gV a.eval _ (ay 51) (ay 57) 37 rfl eK rfl r) q
  ·cases bA;have eJ:a.eval (ay 50)=aX #[U V me,J aE a1 I,J b1 a2 M,J b2 a6 N,J b4 a7 S,J b5 a8 T]:=seen.at_ ⟨0,.data⟩ (by simp) rfl (aF (by decide)) _ rfl;have eV:a.eval (ay 8)=aj (O ⟨H,0,L⟩):=seen.kp 8 _ (nd 8 (by decide)) rfl;obtain⟨sl,d0,dT⟩:∃ sl:Sl,a.eval (ay 58)=eu sl/\kF x G (a.eval (ay 58)) (lo++[(jw,4,c,d,c2,F,(L,0,0),(L,0,0))]):=seen.at_ ⟨8,.chain⟩ (by simp) rfl (aF (by decide)) _ rfl;have b7:=b6.2.2.1 c6;have cS:=zU e0.o b7 cI.o;have s4:=dP x H (U V me) (J aE a1 I) (J b1 a2 M) (J b2 a6 N) (J b4 a7 S) (J b5 a8 T);have cV:D 8:=f2 ⟨8,.chain⟩ (by simp) rfl;have cM:¬ D 10:=fun h=>c6 (bX 10 _ h rfl ⟨9,.chain⟩ (by simp) rfl);have f8:=dM cS (U V me) (J aE a1 I) (J b1 a2 M) (J b2 a6 N) (J b4 a7 S) (J b5 a8 T);have f9:∀ B,B<=H->Below B W (gH x H (U V me) (J aE a1 I) (J b1 a2 M) (J b2 a6 N) (J b4 a7 S) (J b5 a8 T)):=fun B hB=>dJ (b7.mono (aU (dn hB cI.o))) hB _ _ _ _ _ _;have f6:=o7 cS me aE b1 b2 b4 b5 a1 I a2 M a6 N a7 S a8 T;have fS:∀ v l,kF x G v l->kF (gH x H (U V me) (J aE a1 I) (J b1 a2 M) (J b2 a6 N) (J b4 a7 S) (J b5 a8 T)) G v l:=fun v l h=>fJ h H cI.o _ _ _ _ _ _;generalize gH x H (U V me) (J aE a1 I) (J b1 a2 M) (J b2 a6 N) (J b4 a7 S) (J b5 a8 T)=cH at *;have cJ:dF W G bB bC bE H #[U V me,J aE a1 I,J b1 a2 M,J b2 a6 N,J b4 a7 S,J b5 a8 T] c d c2 F (fun j=>j=9\/D j) cH:=⟨⟨(s4 bB e5.o).trans b6.1.1,(s4 bC e6.o).trans b6.1.2.1,(s4 bE e7.o).trans b6.1.2.2⟩,fun h=>absurd (aF cV) h,fun h=>absurd (Or.inl rfl) h,fun _=>⟨f8,fun j b8 f5=>(s4 j f5).trans (b7.block j b8),f9⟩⟩;have st:∀ j u,j<11->D j->¬ D ((fun i=>if i=7 then 8 else 11) j)->j≠9->dV W.heap.size G (aX #[U V me,J aE a1 I,J b1 a2 M,J b2 a6 N,J b4 a7 S,J b5 a8 T]) bO jw c d c2 F lo j u x->dV W.heap.size G (aX #[U V me,J aE a1 I,J b1 a2 M,J b2 a6 N,J b4 a7 S,J b5 a8 T]) bO jw c d c2 F lo j u cH:=fun j u b8 bI cF bT h=>by
    rcases (by omega:j=0\/j=1\/j=2\/j=3\/j=4\/j=5\/j=6\/j=7\/j=8\/j=9\/j=10) with rfl|rfl|rfl|rfl|rfl|rfl|rfl|rfl|rfl|rfl|rfl
    ·exact h
    ·exact h
    ·exact h
    ·exact h
    ·exact h
    ·exact h
    ·exact h
    ·exact absurd cV cF
    ·obtain⟨s,bP,bM⟩:=h;exact⟨s,bP,fS _ _ bM⟩
    ·exact h
    ·exact absurd bI cM
   have q:=b9 (.bool bV) cH trivial cJ fun j u b8 bI cF _ bT h=>st j u b8 bI cF bT h;have fN:K a cH:=q;exact Rg.gq 30 (ay 8) (ay 50) rfl rfl rfl rfl eV eJ f6 fN
  ·cases bA;obtain⟨sl,d0,dT⟩:∃ sl:Sl,a.eval (ay 58)=eu sl/\kF x G (a.eval (ay 58)) (lo++[(jw,4,c,d,c2,F,(L,0,0),(L,0,0))]):=seen.at_ ⟨8,.data⟩ (by simp) rfl (aF (by decide)) _ rfl;exact aO rfl rfl (Rg.kG a.eval _ (ay 58) rfl x) (b9 _ _ ⟨sl,d0,dT⟩ (bW 10 (by decide) (by decide)) fun _ _ _ _ _ _ _ h=>h)
 ·intro a x df sz kp ⟨hV,d5⟩ ⟨D,f3,b6⟩;obtain⟨sl,bP,bM⟩:=(d5 10 (by omega)).2 (by decide);have eW:a.tmps[9]?=O (eu sl):=by
   rw [<- bP];exact (d5 10 (by omega)).1 9 rfl
  obtain⟨e8,eB,eC⟩:=b6.2.2.2 (f3 9 (by omega));rw [bP] at bM;exact cU.o a x sl df ((kp 8 (nd 8 (by decide))).trans rfl) eW e8 bM eB eC
theorem JM {W r:aA} {k:Nat} {me:Int} {s1 s2 s3 s4 s5:Sl} {v:aG} {l:List iY} {m:List En} (G:mF W v l) (H:eY (jF W) l m) (u:dN W k (jU me s1 s2 s3 s4 s5) 30) (F:∀ q,q<W.heap.size->q≠k->r.heap[q]?=W.heap[q]?):mF r v l/\eY (jF r) l m :=
 ⟨jr nE G F (mG u (fun _=>⟨_,_,rfl,rfl⟩) (nT me s1 s2 s3 s4 s5)),H.mono fun _ _ j=>⟨j.1,j.2.1,j.2.2.1,j.2.2.2.1,jr wV j.2.2.2.2 F (rY u (uM me s1 s2 s3 s4 s5))⟩⟩
theorem gy {W r:aA} {k:Nat} {me:Int} {s1 s2 s3 s4 s5:Sl} {s:Sl} {m:List Ou} (h:lZ W s m) (u:dN W k (jU me s1 s2 s3 s4 s5) 30) (F:∀ q,q<W.heap.size->q≠k->r.heap[q]?=W.heap[q]?):lZ r s m:=by
 obtain⟨I,G,H⟩:=h;exact⟨I,jr Ic G F (mG u (fun c=>⟨_,_,rfl,rfl⟩) (nT me s1 s2 s3 s4 s5)),H.mono fun x a j=>⟨j.1,j.2.1,j.2.2.1,j.2.2.2.1,jr wV j.2.2.2.2.1 F (rY u (uM me s1 s2 s3 s4 s5)),j.2.2.2.2.2⟩⟩
theorem iA (b:Br) (t x:Id) (f:Int):(jv b t x f).1=(takeB b t x f).1:=by
 unfold jv
 split
 ·rfl
 ·split <;> rfl
theorem ad6 {W:aA} {l:List iY} {m:List En} (t:Int) (h:eY (jF W) l m):eY (tZ W) (l.map (Rf t)) (m.map (rF t)):=by
 induction h with
 | nil=>exact .nil
 | cons x _ j=>exact .cons (aiY x t) j
theorem JN (b:Br) (cI av cQ e6 cJ:Sl) (x s:Id) (f:Int) (w:aA) (h:iT w b cI av cQ e6 cJ) (h4:b.dQ.length<=900) (eK:b.ent.length<=900) (gO:∀ e∈b.ent,dX e.p) (g8:∀ e∈b.ent,e.tree∈b.dQ.map Ad.id) :
  bR Z 59 #[mg b.me cI av cQ e6 cJ,nP x,nP s,U V f] w fun e w'=>(∃ ev' lo:Sl,e=aK (.tuple #[mg b.me cI av cQ ev' cJ,eu lo])/\iT w' (jv b x s f).1 cI av cQ ev' cJ/\lZ w' lo (jv b x s f).2)/\Below w.heap.size w w':=by
 obtain⟨no,I,H⟩:=cI;obtain⟨F,q,u⟩:=av;obtain⟨T,S,sc⟩:=cQ;obtain⟨cG,cF,cD⟩:=e6;obtain⟨N,G,M⟩:=cJ;obtain⟨c,d⟩:=x;obtain⟨c2,a7⟩:=s;have e5:=A (fun W i7=>Wt b (no,I,H) (F,q,u) (T,S,sc) (cG,cF,cD) (N,G,M) (c,d) (c2,a7) f W (h.on (show Below w.heap.size w W from i7)) eK gO);have d8:=A h.near;have k6:=A h4;have hN:=A eK;have hM:=A g8;obtain⟨e7,bW,e8,e9,eA⟩:=zM w #[U V b.me,J no I H,J F q u,J T S sc,J cG cF cD,J N G M] #[U V c,U V d] #[U V c2,U V a7] #[U V 0,J L 0 0,J L 0 0,J L 0 0,J L 0 0,J L 0 0] 30 23 23 30;obtain⟨me,gC⟩:∃ me,me=b.me:=⟨_,rfl⟩;simp only [<- gC] at e7 bW e8 e9 eA e5 ⊢;have cX:=A (e7);have dA:=A (bW);have eL:=A (e8);have eM:=A (e9);have f1:=A (eA);clear e7 bW e8 e9 eA h h4 eK gC gO g8;go_enter Tryz.func59,Tryz.ntmps59;go_upto_region 1 with fail;generalize ((((w.alloc (au #[U V me,J no I H,J F q u,J T S sc,J cG cF cD,J N G M] 30)).alloc (au #[U V c,U V d] 23)).alloc (au #[U V c2,U V a7] 23)).alloc (au #[U V 0,J L 0 0,J L 0 0,J L 0 0,J L 0 0,J L 0 0] 30))=W at *;have fL:=A (e5.o W cX.o);clear e5;obtain⟨eR,eS,eV,eW,f0,cR⟩:=dA.o.fA;obtain⟨jV,b5⟩:=eL.o.cs2;obtain⟨z0,hE⟩:=eM.o.cs2;go_wp2_with fail;refine fL.o.mono ?_;rintro k7 w1 ⟨⟨⟨a1,a2,a6⟩,⟨la,ln,kK⟩,rfl,g5,b7,d0,g1⟩,b2⟩;clear fL;clear eR eS eV eW f0 cR jV b5 z0 hE;obtain⟨i2,e4⟩:∃ r,(takeB b (c,d) (c2,a7) f).2.2=r:=⟨_,rfl⟩;have e2:=A e4;rw [e4];obtain⟨kO,kQ,cH⟩:=d0.len;obtain rfl:ln=b7.length:=by simpa using congrArg (fun v=>match v with|Value.slice _ n _=>n|_=>0) cH
 obtain⟨ln,eI⟩:∃ n,n=b7.length:=⟨_,rfl⟩;simp only [<- eI] at d0 ⊢;have cA:=A eI.symm;clear eI cH;have h3:=A (cX.o.trans (b2.mono cX.o.size));have bO:=A (dA.o.on b2);have f2:=A (eL.o.on b2);have f5:=A (eM.o.on b2);have f6:=A (f1.o.on b2);clear cX dA eL eM f1;obtain⟨iG,iS,j0,j1,j2,j3⟩:=bO.o.fA;obtain⟨j4,j5,j6,j7,j8,j9⟩:=bO.o.kg;have hF:=bO.o.lt;have dZ:=A (dM bO.o (U V me) (J no I H) (J F q u) (J T S sc) (J a1 a2 a6) (J N G M));have cS:=A (dJ (b:=w.heap.size) h3.o (aD _) (U V me) (J no I H) (J F q u) (J T S sc) (J a1 a2 a6) (J N G M));have dE:=A (show dN _ _ _ _ from (dP w1 w.heap.size (U V me) (J no I H) (J F q u) (J T S sc) (J a1 a2 a6) (J N G M) (w.heap.size+1) (by omega)).trans f2.o);have dS:=A (show dN _ _ _ _ from (dP w1 w.heap.size (U V me) (J no I H) (J F q u) (J T S sc) (J a1 a2 a6) (J N G M) (w.heap.size+1+1) (by omega)).trans f5.o);have dT:=A (show dN _ _ _ _ from (dP w1 w.heap.size (U V me) (J no I H) (J F q u) (J T S sc) (J a1 a2 a6) (J N G M) (w.heap.size+1+1+1) (by omega)).trans f6.o);have bM:=A (fK (s1:=(no,I,H)) (s2:=(F,q,u)) (s3:=(T,S,sc)) (s4:=(cG,cF,cD)) (s5:=(N,G,M)) g5 bO.o (fun j _ b4=>dP w1 w.heap.size (U V me) (J no I H) (J F q u) (J T S sc) (J a1 a2 a6) (J N G M) j b4) (by rw [(jf b (c,d) (c2,a7) f).2.1]; exact d8.o.on cS.o));have c8:=A (JM (s1:=(no,I,H)) (s2:=(F,q,u)) (s3:=(T,S,sc)) (s4:=(cG,cF,cD)) (s5:=(N,G,M)) d0 g1 bO.o (fun j _ b4=>dP w1 w.heap.size (U V me) (J no I H) (J F q u) (J T S sc) (J a1 a2 a6) (J N G M) j b4));clear e4 g5 b2 d0 g1 h3 bO f2 f5 f6;go_upto_region 2 with fail;clear hF iG iS j0 j1 j2 j3 j4 j5 j6 j7 j8 j9;unfold gH at dZ cS dE dS dT bM c8;generalize ((((((w1.setCell ⟨w.heap.size,0,L⟩ (U V me)).setCell ⟨w.heap.size,1,L⟩ (J no I H)).setCell ⟨w.heap.size,2,L⟩ (J F q u)).setCell ⟨w.heap.size,3,L⟩ (J T S sc)).setCell ⟨w.heap.size,4,L⟩ (J a1 a2 a6)).setCell ⟨w.heap.size,5,L⟩ (J N G M))=aE at *;have d2:=A (cS.o);have a8:=A (dZ.o);have cW:=A (dE.o);have f8:=A (dS.o);have bI:=A (dT.o);clear cS dZ dE dS dT;cases i2
 ·have eR:=a8.o.cell 0;have eS:=a8.o.cell 1;have eV:=a8.o.cell 2;have eW:=a8.o.cell 3;have f0:=a8.o.cell 4;have cR:=a8.o.cell 5;simp only [aL,aQ,aR] at eR eS eV eW f0 cR;obtain⟨l0,l1,l2,l3,l4,r5⟩:=bI.o.fA;obtain⟨k0,k1,k2,k3,k4,k5⟩:=bI.o.kg;have hF:=bI.o.lt;have hI:=A (dM bI.o (U V me) (J no I H) (J F q u) (J T S sc) (J a1 a2 a6) (J N G M));have c7:=A (dJ (b:=w.heap.size+1+1+1) d2.o (by omega) (U V me) (J no I H) (J F q u) (J T S sc) (J a1 a2 a6) (J N G M));have e1:=A (fK (s1:=(L,0,0)) (s2:=(L,0,0)) (s3:=(L,0,0)) (s4:=(L,0,0)) (s5:=(L,0,0)) bM.o bI.o (fun j _ b4=>dP aE (w.heap.size+1+1+1) (U V me) (J no I H) (J F q u) (J T S sc) (J a1 a2 a6) (J N G M) j b4) (by rw [(jf b (c,d) (c2,a7) f).2.1]; exact d8.o.on c7.o));clear bM c8;go_wp2_with fail;obtain⟨v0,eN,eQ,v3,v4,v5⟩:=hI.o.fA;refine aV (v:=.tuple #[aX #[U V me,J no I H,J F q u,J T S sc,J a1 a2 a6,J N G M],J L 0 0]) (by simp [results,Tryz.results59,go_sem,v0,eN,eQ,v3,v4,v5]) rfl ?_;have i8:jv b (c,d) (c2,a7) f=((takeB b (c,d) (c2,a7) f).1,[]):=by unfold jv; rw [if_pos e2.o]
  rw [i8];exact⟨⟨(a1,a2,a6),(L,0,0),rfl,e1.o,uf _⟩,c7.o⟩
 ·obtain⟨fY,g7,h0⟩:=FX e2.o;have gE:(c,d)∈b.dQ.map Ad.id:=h0 ▸ hM.o fY g7;obtain⟨k,eE,cY⟩:=JD _ _ gE;rw [aN] at cY;obtain⟨a,eB⟩:∃ a,b.dQ[k]?=O a:=by
   cases h:b.dQ[k]? with
   | none=>rw [h] at cY; cases cY
   | some a=>exact⟨a,rfl⟩
  have hH:=A (show jv b (c,d) (c2,a7) f=((takeB b (c,d) (c2,a7) f).1,(takeB b (c,d) (c2,a7) f).2.1.map (rF a.par)++[⟨a.par,4,(c,d),(c2,a7),[]⟩]) from by
   unfold jv;rw [if_neg (by rw [e2.o]; simp),eE,Int.toNat_natCast,eB])
  clear cY gE g7 h0 fY;obtain⟨cV,cU,d7⟩:=bM.o.dQ;rw [(jf b (c,d) (c2,a7) f).1] at d7;obtain⟨z,h1,h2⟩:=d7.at k a eB;have e0:=wW me (J no I H) (J a1 a2 a6) (J T S sc) (J N G M) (F,q,u) cV (c,d);rw [Ez d7,eE] at e0;obtain⟨hA,c6,cH⟩:=cU.len;obtain⟨rfl,rfl,rfl⟩:F=hA/\q=cV.length/\u=c6:=by
   have:J F q u=J hA cV.length c6:=cH;simpa using this
  obtain⟨p,d1,cP⟩:=Mv cU rfl rfl h1;obtain⟨cL,cM,cN,bX⟩:=cP aE (aB _ _);obtain⟨hE,l5,⟨z3,z4,z5⟩,jY⟩:=z;simp only at cL cM cN bX;obtain rfl:jY=a.par:=h2.2.1;have dC:=A (fun d os=>Calls.regrown_of (d:=d) (os:=os) (e0 _ (cU.on (below_regrown aE d os))));obtain⟨q,eC⟩:∃ n,n=cV.length:=⟨_,rfl⟩;clear e0 cH cP cL cM cN;have jB:=aP bX;simp only [<- eC] at d1 dC a8 bM;have hJ:=A eC;clear eC h2 eB eE d7 cU h1 bX;have a0:=aP (show aE.cell? ⟨w.heap.size,0,L⟩=O (U V me) from a8.o.cell 0);have hS:=aP (show aE.cell? ⟨w.heap.size,1,L⟩=O (J no I H) from a8.o.cell 1);have hT:=aP (show aE.cell? ⟨w.heap.size,2,L⟩=O (J F q u) from a8.o.cell 2);have a3:=aP (show aE.cell? ⟨w.heap.size,3,L⟩=O (J T S sc) from a8.o.cell 3);have a4:=aP (show aE.cell? ⟨w.heap.size,4,L⟩=O (J a1 a2 a6) from a8.o.cell 4);have a5:=aP (show aE.cell? ⟨w.heap.size,5,L⟩=O (J N G M) from a8.o.cell 5);have b0:=aP (show aE.cell? ⟨w.heap.size+1,0,L⟩=O (U V c) from cW.o.cell 0);have hU:=aP (show aE.cell? ⟨w.heap.size+1,1,L⟩=O (U V d) from cW.o.cell 1);go_upto_region 4 with fail;refine ko ?_
  repeat (go_big_quiet_step (first | (with_reducible exact dC.o _ _)))
  refine kr fun fX h6=>?_;have b6:=below_regrown aE fX h6;have f3:=A (bM.o.on b6);have c9:=A (show mF _ _ _/\eY (jF _) _ _ from ⟨c8.o.1.on b6,c8.o.2.mono fun _ _ h=>h.on b6⟩);have hC:=A (d2.o.trans (b6.mono d2.o.size));have fS:=A (a8.o.on b6);have fV:=A (cW.o.on b6);have fW:=A (f8.o.on b6);have d3:=A (bI.o.on b6);clear d2 a8 cW f8 bI;clear b6 bM c8 dC d1 jB a0 hS hT a3 a4 a5 b0 hU;generalize grow (redrawn aE fX) h6=bP at *;generalize a.par=jw at *;go_wp2_with fail
  go_loopw [13,38] (fun v i wr=>∃ k:Nat,k<=ln/\i=U V k/\Below bP.heap.size bP wr/\kF wr bP.heap.size v ((b7.take k).map (Rf jw))) (fun _ i _=>ln-(intOf i).toNat)
  case atStart=>exact⟨0,bL _,rfl,aB _ _,iR _ _⟩
  case round =>
   obtain⟨k,k9,rfl,g2,gR⟩:=hrel;have b1:=A g2;have cC:=A gR;clear g2 gR;have hO:=A (show ln<=900 from by have bW:=c9.o.2.len; rw [cA.o] at bW; rw [bW]; exact ah (oU b (c,d) (c2,a7) f).2 hN.o);have kE:=hO.o;by_cases gA:k<ln
   ·have kA:(k:Int)<(ln:Int):=by omega
    have kB:IntKind.i64.wrap ((k:Int)+1)=(k:Int)+1:=IntWalk.i64_in _ (by omega);obtain⟨y,eJ⟩:∃ y,b7[k]?=O y:=⟨_,ak (by rw [cA.o]; exact gA)⟩;obtain⟨p,d1,cP⟩:=Qj c9.o.1 rfl cA.o eJ;obtain⟨cL,cM,cN,bX,h7,h8,h9⟩:=cP wr b1.o;have hR:=A (show (b7.take (k+1)).map (Rf jw)=(b7.take k).map (Rf jw)++[Rf jw y] from by rw [dG,eJ]; simp);obtain⟨b5,b8,b9,bA,⟨bE,bC,bB⟩,d5,d6⟩:=y;simp only at cL cM cN bX h7 h8 h9;clear cP eJ;go_upto_region 9 with fail;clear cL cM cN bX h7 h8 h9 d1;have e3:=fP wr (au #[U V b5,U V b8,U V b9,U V bA,J bE bC bB,U V d5,.bool d6] 67);have fR:=dR wr #[U V b5,U V b8,U V b9,U V bA,J bE bC bB,U V d5,.bool d6] 67;have d9:=A (b1.o.trans (e3.mono b1.o.size));have fN:=A (Bk.dK cC.o e3);clear b1 cC e3;generalize wr.alloc (au #[U V b5,U V b8,U V b9,U V bA,J bE bC bB,U V d5,.bool d6] 67)=jI at *;obtain⟨hV,hW,hX,hY,hZ,i0,i1⟩:=fR.oz;have f9:=Ec (b5,b8,b9,bA,(bE,bC,bB),d5,d6) jI;go_wp2_with fail;refine f9.mono ?_;rintro k8 d4 ⟨rfl,b2⟩;clear f9 fR hV hW hX hY hZ i0 i1;have cT:=A (d9.o.trans (b2.mono d9.o.size));have f7:=A (Bk.dK fN.o b2);clear b2 d9 fN;have g9:=jL Ic d4 [((jw,3,b5,b8,b9,bA,(bE,bC,bB),(L,0,0)):nu)] 1 rfl (by simp) #[U V jw,U V 3,U V b5,U V b8,U V b9,U V bA,J bE bC bB,J L 0 0] (by rfl);have bT:=fP d4 (au #[U V jw,U V 3,U V b5,U V b8,U V b9,U V bA,J bE bC bB,J L 0 0] 46);obtain⟨jD,cR,c6,h5,g0⟩:=iC Ic bP.heap.size (Bk.dK f7.o bT) (aW g9) (by rw [aM,bf]; omega) (by simp) (ah cT.o.size bT.size) 37;have c6:(aY #[37,37] 37 #[u13,J (O ⟨d4.heap.size,0,L⟩) 1 1]).run Z (d4.alloc (au #[U V jw,U V 3,U V b5,U V b8,U V b9,U V bA,J bE bC bB,J L 0 0] 46))=.ok jD cR:=c6;have hG:=A ((cT.o.trans (bT.mono cT.o.size)).grown g0 (ah cT.o.size bT.size) (fun j b4=>((Bk.dK f7.o bT).lt j b4).1));have hQ:=A h5;clear g9 bT h5 g0;go_wp2_with (first | (at_builtin; refine wpList_append_run rfl _ _ 37 rfl rfl rfl c6 ?_) | fail)
    go_roundw
    case rel=>exact⟨k+1,gA,by go_num,hG.o,by rw [hR.o]; exact hQ.o⟩
    case measure=>simp [intOf]; omega
   ·obtain rfl:k=ln:=by omega
    have gS:b7.take k=b7:=aZ (by rw [cA.o]; exact aD _);rw [gS] at cC;clear gS;go_upto_region 11 with fail;refine aal _ wr bP.heap.size w.heap.size (w.heap.size+1) (w.heap.size+1+1) (w.heap.size+1+1+1) me jw c d c2 a7 no F T a1 N I H q u S sc a2 a6 G M u13 (b7.map (Rf jw)) _ _ _ _ _ _ (fS.o.on b1.o) (fV.o.on b1.o) (fW.o.on b1.o) (d3.o.on b1.o) fS.o.lt fV.o.lt fW.o.lt d3.o.lt (by omega) (by omega) (by omega) b1.o.size cC.o (by rw [aM,cA.o]; omega) ?_;intro a9 hD sl hP i4 i5 g6 gI g4 g3;have c7:=A (show Below w.heap.size w hD from (hC.o.trans (b1.o.mono hC.o.size)).trans (g3 w.heap.size (by omega)));have f4:=A (show ∀ j,j<bP.heap.size->j≠w.heap.size+1+1+1->hD.heap[j]?=bP.heap[j]? from fun j b4 i9=>(g4 j b4 i9).trans (b1.o.block j b4));have e1:=A (fK (s1:=(L,0,0)) (s2:=(L,0,0)) (s3:=(L,0,0)) (s4:=(L,0,0)) (s5:=(L,0,0)) f3.o d3.o f4.o (by rw [(jf b (c,d) (c2,a7) f).2.1]; exact d8.o.on c7.o));have hL:=A (JM (s1:=(L,0,0)) (s2:=(L,0,0)) (s3:=(L,0,0)) (s4:=(L,0,0)) (s5:=(L,0,0)) c9.o.1 c9.o.2 d3.o f4.o);have hK:=A (aW gI);obtain⟨v0,eN,eQ,v3,v4,v5⟩:=g6.fA;clear g6 gI g4 g3 f3 c9 b1 cC;simp only [Exit.then]
    apply_assumption
    go_wp2_with fail;refine aV (v:=.tuple #[aX #[U V me,J no I H,J F q u,J T S sc,J a1 a2 a6,J N G M],eu sl]) (by simp [results,Tryz.results59,go_sem,i4,i5,v0,eN,eQ,v3,v4,v5]) hP ?_;have i6:=hJ.o;subst i6;rw [hH.o];exact⟨⟨(a1,a2,a6),sl,rfl,e1.o,_,hK.o,(ad6 jw hL.o.2).append (.cons ⟨rfl,rfl,rfl,rfl,jK _,rfl⟩ .nil)⟩,c7.o⟩
theorem uh {α:Type} {E:Ek α} (K:E.Ok) {w:aA} (B:Nat) {v x:aG} {l m:List α} (q:Own E w B v l) (I:Row E w x m) (a8:l.length<=1000000) (a7:m.length<=1000000) (hB:B<=w.heap.size) (r:TypeId) :
  ∃ j w',(aY #[E.ts,E.ts] r #[v,x]).run Z w=.ok j w'/\Own E w' B j (l++m)/\w.grownBy w' v.ownBlock:=by
 obtain⟨i,u,M,i3,N⟩:=K.info;rcases I with⟨rfl,rfl⟩|⟨F,c,rfl,a2,a6,G⟩
 ·exact⟨v,w,run_append_owned_none (P:=Z) (w:=w) B E.ts r E.t i E.n K.hu u v _ _ q,by simpa using q,uJ _ _⟩
 ·have H:=K.few;obtain⟨j,w',S,T,a1,_⟩:=run_append_own (P:=Z) w B E.ts r E.t i E.z E.n E.bytes K.hu u M i3 N K.zs K.pos v _ _ q F m.length c (flat E m) (eO K m) G (oH K m) (by unfold maxLen; omega)
   (ah (Nat.mul_le_mul (show l.length+m.length<=2000000 by omega) H) (by decide)) hB
  exact⟨j,w',S,by rw [Own,aH,gM]; exact T,a1⟩
def LZ (B:Nat) (_ _:Nat) (me:Int) (S T a1 a2 a6:OA) (G j H q I r M u N F:Nat) (a8 jw:OA) (a7 sc b1 aE:Nat) (lo ls:List nu) (_ _ _ _ _ _:aG) (i:Nat) (v:aG) (x:aA):Prop :=
 match i with
 | 0=>v=aX #[U V me,J S G j,J T H q,J a1 I r,J a2 M u,J a6 N F]
 | 1=>kF x B v []
 | 2=>v=J a8 a7 sc
 | 3=>kF x B v lo
 | 4=>v=J jw b1 aE
 | 5=>kF x B v (lo++ls)
 | _=>True
noncomputable def aat:Code:=((Tryz.f18.body.bind (eX 16)).getD .skip)
theorem Wx (B:Nat) (r q:Nat) (me:Int) (a2 a6 a7 a8 aE:OA) (M u N F S G T H a1 I:Nat) (b2 jw:OA) (b1 sc b5 b4:Nat) (lo ls:List nu) (z0 b7 b8 z3 z4 z5:aG) (i:Nat) (v:aG) (x b6:aA) (h:LZ B r q me a2 a6 a7 a8 aE M u N F S G T H a1 I b2 jw b1 sc b5 b4 lo ls z0 b7 b8 z3 z4 z5 i v x) (j:Below x.heap.size x b6):LZ B r q me a2 a6 a7 a8 aE M u N F S G T H a1 I b2 jw b1 sc b5 b4 lo ls z0 b7 b8 z3 z4 z5 i v b6:=by
 by_cases b9:i<6
 ·rcases (by omega:i=0\/i=1\/i=2\/i=3\/i=4\/i=5) with rfl|rfl|rfl|rfl|rfl|rfl
  ·exact h
  ·exact dK h j
  ·exact h
  ·exact dK h j
  ·exact h
  ·exact dK h j
 ·unfold LZ
  split <;> first | omega | trivial
theorem ak3 (Q:Exit->Act->aA->Prop) (W:aA) (q b9:Nat) (me:Int) (a7 a8 aE b1 b2:OA) (S G T H a1 I a2 M a6 N:Nat) (bB jw:OA) (bA sc b8 b7:Nat) (lo ls:List nu) (z0 eK eL z3 z4 z5:aG) {bI bM u3 cW d8 u6 u7 e0 bO u11 bP bT bW bX c6 c7 c8 c9 cA cC cD cF cG cH cI cJ cL cM cN cP cQ cR cS cT cU cV cX cY d0 d1 d2 d3 d4 d5 d6 d7 d9 dA dC dE e2 e3 e4 e5 e6 e7 dS dT dZ:aG}
  (eB:dN W q #[z0,eK,eL,z3,z4,z5] 30) (eV:dN W b9 #[U V me,J a7 S G,J a8 T H,J aE a1 I,J b1 a2 M,J b2 a6 N] 30) (fX:Nf W (J bB bA sc) lo) (f6:Nf W (J jw b8 b7) ls) (f0:lo.length<=1000000) (f7:ls.length<=1000000)
  (eW:∀ (x:aA) (fW:aG) {f9 fL fN fR fS fV:aG},dN x q #[U V me,J a7 S G,J a8 T H,J aE a1 I,J b1 a2 M,J b2 a6 N] 30->kF x W.heap.size fW (lo++ls)->(∀ j,j<W.heap.size->j≠q->x.heap[j]?=W.heap[j]?)->(∀ B,B<=q->Below B W x)->Q .normal ⟨(bI::bM::aj (O ⟨q,0,L⟩)::u3::cW::d8::u6::u7::e0::fW::bO::u11::aj (O ⟨b9,0,L⟩)::J jw b8 b7::bP::bT::bW::bX::c6::c7::c8::c9::cA::cC::cD::cF::cG::cH::cI::cJ::cL::cM::cN::cP::cQ::cR::cS::cT::cU::cV::cX::cY::d0::d1::d2::d3::d4::d5::d6::d7::d9::dA::dC::dE::f9::fL::fN::fR::fS::fV::dS::dT::dZ::[]).toArray,[]⟩ x) :
  Code.wp Z aat Q ⟨(bI::bM::aj (O ⟨q,0,L⟩)::u3::cW::d8::u6::u7::e0::J bB bA sc::bO::u11::aj (O ⟨b9,0,L⟩)::J jw b8 b7::bP::bT::bW::bX::c6::c7::c8::c9::cA::cC::cD::cF::cG::cH::cI::cJ::cL::cM::cN::cP::cQ::cR::cS::cT::cU::cV::cX::cY::d0::d1::d2::d3::d4::d5::d6::d7::d9::dA::dC::dE::e2::e3::e4::e5::e6::e7::dS::dT::dZ::[]).toArray,[]⟩ W:=by
 have eQ:=A eW;have eM:=A eB;have g2:=A eV;have g4:=A fX;have g5:=A f6;have eR:=A f0;have g3:=A f7;clear eW eB eV fX f6 f0 f7;have hA:=Wx W.heap.size q b9 me a7 a8 aE b1 b2 S G T H a1 I a2 M a6 N bB jw bA sc b8 b7 lo ls z0 eK eL z3 z4 z5;unfold aat
 conv=>arg 2; whnf
 have nd:∀ j,(∀ i,i<6->[54,55,56,57,58,59].getD i 0≠j)->∀ i,i<6->(fun i=>[54,55,56,57,58,59].getD i 0) i≠j:=fun j h=>h;refine Rg.gN 8 6 (fun i=>[54,55,56,57,58,59].getD i 0) (fun i=>if i=1 then 3 else if i=3 then 5 else 6) (LZ W.heap.size q b9 me a7 a8 aE b1 b2 S G T H a1 I a2 M a6 N bB jw bA sc b8 b7 lo ls z0 eK eL z3 z4 z5) (by kernel_rfl) (by kernel_rfl) rfl (by decide) (fun i j bE b6 h=>(by decide:∀ i,i<6->∀ j,j<6->[54,55,56,57,58,59].getD i 0=[54,55,56,57,58,59].getD j 0->i=j) i bE j b6 h) (fun i bE=>(by decide:∀ i,i<6->[54,55,56,57,58,59].getD i 0<63) i bE) ?_ (fun _=>Rg.kJ 14 (by kernel_rfl)) ?_ ?_
 ·intro i o bE b5 a x D h6 h1 gS F seen K bC;clear eQ;rcases (by omega:i=0\/i=1\/i=2\/i=3\/i=4\/i=5) with rfl|rfl|rfl|rfl|rfl|rfl
  ·cases b5;have g7:a.eval (ay 12)=aj (O ⟨b9,0,L⟩):=seen.kp 12 _ (nd 12 (by decide)) rfl;obtain⟨hK,hL,hM,hN,hO,hP⟩:=(g2.o.on F).fA;exact aO rfl rfl (dB a.eval _ 30 (ay 12) rfl (by rw [g7]; simp [go_sem,hK,hL,hM,hN,hO,hP])) (bC _ _ rfl (aB _ _) fun _ _ _ _ _ _ _ h=>h)
  ·cases b5;have f2:=fP x (au #[] 46);have h4:=sU (B':=W.heap.size) F.size (MJ (E:=EU) x);exact aO rfl rfl (Rg.iX a.eval _ 37 0 #[] rfl rfl (by simp [go_sem])) (bC (J (O ⟨x.heap.size,0,L⟩) 0 0) (x.alloc (au #[] 46)) h4 (f2.mono F.size) fun j u _ _ _ _ _ h=>hA j u _ _ h f2)
  ·cases b5;have gC:a.eval (ay 9)=J bB bA sc:=seen.kp 9 _ (nd 9 (by decide)) rfl;exact aO rfl rfl (Rg.gF a.eval _ (ay 9) rfl x) (bC _ _ gC (aB _ _) fun _ _ _ _ _ _ _ h=>h)
  ·cases b5;have fY:=seen.at_ ⟨1,.data⟩ (by simp) rfl (Or.inl rfl);have g9:a.eval (ay 56)=J bB bA sc:=seen.at_ ⟨2,.data⟩ (by simp) rfl (aF (by decide));have f4:kF x W.heap.size (a.eval (ay 55)) []:=fY;obtain⟨b4,e9,r,eJ,eA⟩:=uh Ic W.heap.size f4 (g4.o.on F) (by simp) eR.o F.size 37;have hG:kF e9 W.heap.size b4 lo:=by simpa using eJ
   exact aO rfl rfl (Rg.gV a.eval _ (ay 55) (ay 56) 37 rfl rfl g9 r) (bC b4 e9 hG ((aB _ x).grown eA F.size fun j b6=>(f4.lt j b6).1) fun j u b6 eS f3 eI eE h=>by
    rcases (by omega:j=0\/j=1\/j=2\/j=3\/j=4\/j=5) with rfl|rfl|rfl|rfl|rfl|rfl
    ·exact h
    ·exact absurd rfl eI
    ·exact h
    ·exact absurd rfl eE
    ·exact h
    ·exact absurd (h1 5 _ eS rfl ⟨3,.data⟩ (by simp) rfl) h6)
  ·cases b5;have g8:a.eval (ay 13)=J jw b8 b7:=seen.kp 13 _ (nd 13 (by decide)) rfl;exact aO rfl rfl (Rg.gF a.eval _ (ay 13) rfl x) (bC _ _ g8 (aB _ _) fun _ _ _ _ _ _ _ h=>h)
  ·cases b5;have g0:=seen.at_ ⟨3,.data⟩ (by simp) rfl (Or.inl rfl);have gA:a.eval (ay 58)=J jw b8 b7:=seen.at_ ⟨4,.data⟩ (by simp) rfl (aF (by decide));have f5:kF x W.heap.size (a.eval (ay 57)) lo:=g0;obtain⟨b4,e9,r,eJ,eA⟩:=uh Ic W.heap.size f5 (g5.o.on F) eR.o g3.o F.size 37;have g6:D 3:=gS ⟨3,.data⟩ (by simp) rfl;exact aO rfl rfl (Rg.gV a.eval _ (ay 57) (ay 58) 37 rfl rfl gA r) (bC b4 e9 eJ ((aB _ x).grown eA F.size fun j b6=>(f5.lt j b6).1) fun j u b6 eS f3 eI eE h=>by
    rcases (by omega:j=0\/j=1\/j=2\/j=3\/j=4\/j=5) with rfl|rfl|rfl|rfl|rfl|rfl
    ·exact h
    ·exact absurd g6 f3
    ·exact h
    ·exact absurd rfl eI
    ·exact h
    ·exact absurd rfl eE)
 ·intro hD o gR eB b5;rcases (by omega:hD=7) with rfl
  ·cases b5;exact⟨⟨6,.chain⟩,by simp,rfl,rfl⟩
 ·intro a w' df sz kp ⟨e8,e1⟩ F;have f8:a.tmps.size=63:=sz;have gE:a.tmps[2]?=O (aj (O ⟨q,0,L⟩)):=(kp 2 (nd 2 (by decide))).trans rfl;have gI:a.tmps[54]?=O (aX #[U V me,J a7 S G,J a8 T H,J aE a1 I,J b1 a2 M,J b2 a6 N]):=by
   have h:e8 0=aX #[U V me,J a7 S G,J a8 T H,J aE a1 I,J b1 a2 M,J b2 a6 N]:=(e1 0 (by omega)).2 (by decide);rw [<- h];exact (e1 0 (by omega)).1
  have gO:a.tmps[59]?=O (e8 5):=(e1 5 (by omega)).1;have g1:=(e1 5 (by omega)).2 (by decide);have hH:kF w' W.heap.size (e8 5) (lo++ls):=g1;generalize e8 5=b4 at *;have eN:=eM.o.on F;have f1:=eM.o.lt;show Rg.fU _ _ _ 2 6 a w';simp only [Rg.fU];refine Rg.gq 30 (ay 2) (ay 54) rfl rfl rfl rfl (Rg.dU gE) (Rg.dU gI) (w':=gH w' q (U V me) (J a7 S G) (J a8 T H) (J aE a1 I) (J b1 a2 M) (J b2 a6 N)) (o7 eN me _ _ _ _ _ _ _ _ _ _ _ _ _ _ _) ?_;refine aO rfl rfl (Rg.kG a.eval _ (ay 59) rfl _) ?_;show Q .normal (a.put (O 9) (a.eval (ay 59))) _;rw [Rg.dU gO];have h9:=dM eN (U V me) (J a7 S G) (J a8 T H) (J aE a1 I) (J b1 a2 M) (J b2 a6 N);have b5:=fJ hH q f1 (U V me) (J a7 S G) (J a8 T H) (J aE a1 I) (J b1 a2 M) (J b2 a6 N);have h3:∀ j,j<W.heap.size->j≠q->(gH w' q (U V me) (J a7 S G) (J a8 T H) (J aE a1 I) (J b1 a2 M) (J b2 a6 N)).heap[j]?=W.heap[j]?:=fun j b6 h7=>(dP w' q (U V me) (J a7 S G) (J a8 T H) (J aE a1 I) (J b1 a2 M) (J b2 a6 N) j h7).trans (F.block j b6);have h0:∀ B,B<=q->Below B W (gH w' q (U V me) (J a7 S G) (J a8 T H) (J aE a1 I) (J b1 a2 M) (J b2 a6 N)):=fun B hB=>dJ (F.mono (aU (dn hB f1))) hB _ _ _ _ _ _;obtain⟨hS,hR,hQ⟩:=(aW b5).len;generalize gH w' q (U V me) (J a7 S G) (J a8 T H) (J aE a1 I) (J b1 a2 M) (J b2 a6 N)=hJ at *;have hC:∀ j,j≠9->(a.put (O 9) b4).tmps[j]?=a.tmps[j]?:=fun j gR=>by rw [Rg.get_put _ _ _ _ (by omega)]
  have hE:(a.put (O 9) b4).tmps[9]?=O (b4):=by simp [cB,f8]
  have hI:∀ j,(j<54\/60<=j)->(a.put (O 9) b4).tmps[j]?=(bI::bM::aj (O ⟨q,0,L⟩)::u3::cW::d8::u6::u7::e0::b4::bO::u11::aj (O ⟨b9,0,L⟩)::J jw b8 b7::bP::bT::bW::bX::c6::c7::c8::c9::cA::cC::cD::cF::cG::cH::cI::cJ::cL::cM::cN::cP::cQ::cR::cS::cT::cU::cV::cX::cY::d0::d1::d2::d3::d4::d5::d6::d7::d9::dA::dC::dE::e2::e3::e4::e5::e6::e7::dS::dT::dZ::[])[j]?:=fun j b6=>by
   by_cases eC:j=9
   ·subst eC;exact hE
   ·have h8:(bI::bM::aj (O ⟨q,0,L⟩)::u3::cW::d8::u6::u7::e0::b4::bO::u11::aj (O ⟨b9,0,L⟩)::J jw b8 b7::bP::bT::bW::bX::c6::c7::c8::c9::cA::cC::cD::cF::cG::cH::cI::cJ::cL::cM::cN::cP::cQ::cR::cS::cT::cU::cV::cX::cY::d0::d1::d2::d3::d4::d5::d6::d7::d9::dA::dC::dE::e2::e3::e4::e5::e6::e7::dS::dT::dZ::[]:List aG)=(bI::bM::aj (O ⟨q,0,L⟩)::u3::cW::d8::u6::u7::e0::J bB bA sc::bO::u11::aj (O ⟨b9,0,L⟩)::J jw b8 b7::bP::bT::bW::bX::c6::c7::c8::c9::cA::cC::cD::cF::cG::cH::cI::cJ::cL::cM::cN::cP::cQ::cR::cS::cT::cU::cV::cX::cY::d0::d1::d2::d3::d4::d5::d6::d7::d9::dA::dC::dE::e2::e3::e4::e5::e6::e7::dS::dT::dZ::[]).set 9 (b4):=rfl;rw [h8,List.getElem?_set_ne (Ne.symm eC)];exact (hC j eC).trans ((kp j (nd j fun i bE h=>by have:=(by decide:∀ i,i<6->54<=[54,55,56,57,58,59].getD i 0/\[54,55,56,57,58,59].getD i 0<60) i bE; omega)).trans aL)
  obtain⟨hF,h5,h2⟩:=Rg.gG (a:=a.put (O 9) b4) 54 6 (by simp [cB,df]) (by simp [cB,f8]) (by simp) hI;rw [h2]
  match hF,h5 with
  | [f9,fL,fN,fR,fS,fV],_ =>
   exact eQ.o hJ _ h9 b5 h3 h0
theorem xK {b:Br} (t x:Id) (f:Int) (R:En->Prop) (q:∀ e,e.tree=t->R e->R (Ig e)) (h:∀ e∈b.ent,R e):(∀ e∈(takeB b t x f).1.ent,R e)/\∀ e∈(takeB b t x f).2.1,R e:=by
 unfold takeB
 split
 ·exact⟨h,fun e j=>by simp at j⟩
 ·split
  ·exact⟨h,fun e j=>by simp at j⟩
  ·split
   ·exact⟨h,fun e j=>by simp at j⟩
   ·split
    ·exact⟨fun e j=>h e (qE j),fun e j=>by simp at j⟩
    ·exact Bh R q (fun e j=>h e (qE j)) _
theorem Bv (b:Br) (t x:Id) (f:Int):(jv b t x f).2.length<=b.ent.length+1:=by
 unfold jv;have h:=(oU b t x f).2
 split
 ·simp
 ·split
  ·simp
  ·rw [aH,aM];simp;omega
def xL (x:Id) (s:Br×List Ou) (t:Id):Br×List Ou:=((jv s.1 t x (-1)).1,s.2++(jv s.1 t x (-1)).2)
def nY (b:Br) (x:Id):List Ow:=b.own.filter fun o=>decide (o.id≠x)
def ig (b:Br) (x:Id) (k:Nat):Br×List Ou:=((b.dQ.map Ad.id).take k).foldl (xL x) ({ b with own:=nY b x },[])
def fM (b:Br) (x:Id):Br×List Ou:=if (nY b x).length=b.own.length then (b,[]) else ig b x b.dQ.length
theorem lH (b:Br) (x:Id) {k:Nat} {a:Ad} (h:b.dQ[k]?=O a):ig b x (k+1)=xL x (ig b x k) a.id:=by
 unfold ig;rw [dG,aN,h,List.foldl_append]
 rfl
structure UnI (b0 b:Br) (o:List Ow):Prop where
 me:b.me=b0.me
 near:b.near=b0.near
 dQ:b.dQ=b0.dQ
 seen:b.seen=b0.seen
 own:b.own=o
 len:b.ent.length<=b0.ent.length
theorem UnI.drop {b0 b:Br} {o:List Ow} (h:UnI b0 b o) (t x:Id) (f:Int):UnI b0 (jv b t x f).1 o:=by
 rw [iA];obtain⟨j,q,r,u,F⟩:=jf b t x f;exact⟨r.trans h.me,q.trans h.near,j.trans h.dQ,u.trans h.seen,F.trans h.own,ah (oU b t x f).1 h.len⟩
theorem ng (b:Br) (x:Id):∀ k,k<=b.dQ.length->UnI b (ig b x k).1 (nY b x)/\(ig b x k).2.length<=k * (b.ent.length+1)
 | 0,_=>⟨⟨rfl,rfl,rfl,rfl,rfl,aD _⟩,by simp [ig]⟩
 | k+1,r=>by
  obtain⟨a,q⟩:∃ a,b.dQ[k]?=O a:=⟨_,ak r⟩;obtain⟨j,u⟩:=ng b x k (by omega);rw [lH b x q];refine⟨j.drop _ _ _,?_⟩;show ((ig b x k).2++(jv (ig b x k).1 a.id x (-1)).2).length<=_;have F:=Bv (ig b x k).1 a.id x (-1);have G:=j.len;rw [aH,Nat.add_mul];omega
theorem rG (b:Br) (x:Id) (R:En->Prop) (j:∀ e,R e->R (Ig e)) (h:∀ e∈b.ent,R e):∀ k,k<=b.dQ.length->∀ e∈(ig b x k).1.ent,R e
 | 0,_=>h
 | k+1,r=>by
  obtain⟨a,q⟩:∃ a,b.dQ[k]?=O a:=⟨_,ak r⟩;rw [lH b x q];show ∀ e∈(jv _ _ _ _).1.ent,R e;rw [iA];exact (xK _ _ _ R (fun e _=>j e) (rG b x R j h k (by omega))).1
theorem F9 {W r:aA} {k:Nat} {me:Int} {s1 s2 s3 s4 s5:Sl} {l:List nu} {m:List Ou} (h:eY (tZ W) l m) (u:dN W k (jU me s1 s2 s3 s4 s5) 30) (F:∀ q,q<W.heap.size->q≠k->r.heap[q]?=W.heap[q]?):eY (tZ r) l m :=
 h.mono fun _ _ j=>⟨j.1,j.2.1,j.2.2.1,j.2.2.2.1,jr wV j.2.2.2.2.1 F (rY u (uM me s1 s2 s3 s4 s5)),j.2.2.2.2.2⟩
def keepW (x:Id) (o:mP):Bool:=decide ((o.1,o.2.1)≠x)
theorem Cy (b:Br) (d1 av d6 eR fS:Sl) (x:Id) (w:aA) (h:iT w b d1 av d6 eR fS) (hY:b.dQ.length<=900) (fR:b.ent.length<=900) (hZ:b.own.length<=900) (hR:∀ e∈b.ent,dX e.p) (hN:∀ e∈b.ent,e.tree∈b.dQ.map Ad.id) :
  bR Z 18 #[mg b.me d1 av d6 eR fS,nP x] w fun e w'=>(∃ ev' Ql lo:Sl,e=aK (.tuple #[mg b.me d1 av d6 ev' Ql,eu lo])/\iT w' (fM b x).1 d1 av d6 ev' Ql/\lZ w' lo (fM b x).2)/\Below w.heap.size w w':=by
 obtain⟨no,I,H⟩:=d1;obtain⟨F,a2,u⟩:=av;obtain⟨N,M,sc⟩:=d6;obtain⟨b6,b5,b4⟩:=eR;obtain⟨b8,S,b7⟩:=fS;obtain⟨c,d⟩:=x;obtain⟨aE,dS,f9⟩:=h.own;obtain⟨e0,bI,f6⟩:=dS.len;obtain⟨rfl,rfl,rfl⟩:b8=e0/\S=aE.length/\b7=bI:=by
  have:J b8 S b7=J e0 aE.length bI:=f6;simpa using this
 have bA:=A h;have j7:=A hY;have gA:=A fR;have k3:=A (show aE.length<=900 from by rw [f9.len]; exact hZ);have g8:=A f9;have jV:=A hR;have j6:=A hN;obtain⟨S,f5⟩:∃ n,n=aE.length:=⟨_,rfl⟩;simp only [<- f5] at bA dS ⊢;have cV:=A f5;obtain⟨dE,bB,cA,eV⟩:=gT w #[U V b.me,J no I H,J F a2 u,J N M sc,J b6 b5 b4,J b8 S b7] #[U V c,U V d] #[U V 0,J L 0 0,J L 0 0,J L 0 0,J L 0 0,J L 0 0] 30 23 30;obtain⟨me,f4⟩:∃ me,me=b.me:=⟨_,rfl⟩;simp only [<- f4] at dE bB cA eV ⊢;have eS:=A (dE);have eM:=A (bB);have dC:=A (cA);have eN:=A (eV);have e6:=A (dS.on dE);have j9:=A f4;clear dE bB cA eV h hY fR hZ f4 hR hN dS f9 f6 f5;show bR Z 18 #[aX #[U V me,J no I H,J F a2 u,J N M sc,J b6 b5 b4,J b8 S b7],aX #[U V c,U V d]] w _;go_enter Tryz.func18,Tryz.ntmps18;go_upto_region 1 with fail;generalize (((w.alloc (au #[U V me,J no I H,J F a2 u,J N M sc,J b6 b5 b4,J b8 S b7] 30)).alloc (au #[U V c,U V d] 23)).alloc (au #[U V 0,J L 0 0,J L 0 0,J L 0 0,J L 0 0,J L 0 0] 30))=W at *;have k2:=A (show w.heap.size+3<=W.heap.size from by have:=eN.o.lt; omega);obtain⟨bM,bO,bP,bT,bW,b9⟩:=eM.o.fA;go_wp2_with fail;clear bM bO bP bT bW b9
 go_loopw [6,17] (fun v i wr=>∃ q:Nat,q<=S/\i=U V q/\Below W.heap.size W wr/\nO wr W.heap.size v ((aE.take q).filter (keepW (c,d)))) (fun _ i _=>S-(intOf i).toNat)
 case atStart=>exact⟨0,bL _,rfl,aB _ _,iR _ _⟩
 case round =>
  obtain⟨q,f6,rfl,hJ,cP⟩:=hrel;have b2:=A hJ;have cM:=A cP;clear hJ cP;have l2:S<=900:=by rw [cV.o]; exact k3.o
  by_cases cC:q<S
  ·have kQ:(q:Int)<(S:Int):=by omega
   have l1:IntKind.i64.wrap ((q:Int)+1)=(q:Int)+1:=IntWalk.i64_in _ (by omega);obtain⟨z,fL⟩:∃ z,aE[q]?=O z:=⟨_,ak (by rw [<- cV.o]; exact cC)⟩;obtain⟨p,fN,d5⟩:=elW e6.o rfl cV.o.symm fL;obtain⟨d2,d3,d4⟩:=d5 wr b2.o;have g6:=A (EH aE q z (keepW (c,d)) fL);obtain⟨a1,b1,⟨c7,c6,bX⟩⟩:=z;simp only at d2 d3 d4;clear d5 fL;go_upto_region 5 with fail;clear d2 d3 d4 fN;have T:=fP wr (au #[U V a1,U V b1,J c7 c6 bX] 88);have k4:=A (dR wr #[U V a1,U V b1,J c7 c6 bX] 88);have c9:=A (b2.o.trans (T.mono b2.o.size));have e8:=A (dK cM.o T);clear b2 cM T;generalize wr.alloc (au #[U V a1,U V b1,J c7 c6 bX] 88)=cT at *;obtain⟨m5,m7,m8⟩:=k4.o.cs3;have fX:=(dC.o.on c9.o).cell 0;have lL:=(dC.o.on c9.o).cell 1;simp only [aL,aQ,aR] at fX lL;obtain⟨r,f7⟩:∃ r,(!(a1 == c && b1 == d))=r:=⟨_,rfl⟩;have mA:=KU a1 b1 c d r f7;have g9:=A (show keepW (c,d) (a1,b1,(c7,c6,bX))=r by
    rw [<- f7];unfold keepW;by_cases bB:a1=c <;> by_cases cA:b1=d <;> simp [bB,cA])
   clear f7;cases r
   ·go_wp2_with fail
    go_roundw
    case rel=>exact⟨q+1,cC,by go_num,c9.o,by rw [g6.o,g9.o]; simpa using e8.o⟩
    case measure=>simp [intOf]; omega
   ·have hO:=jL okW cT [((a1,b1,(c7,c6,bX)):mP)] 1 rfl (by simp) #[U V a1,U V b1,J c7 c6 bX] (by rfl);have cL:=fP cT (au #[U V a1,U V b1,J c7 c6 bX] 88);obtain⟨lJ,b9,bI,i1,hG⟩:=iC okW W.heap.size (dK e8.o cL) (aW hO) (by have bB:=bY (keepW (c,d)) (aE.take q); rw [bf] at bB; omega) (by simp) (ah c9.o.size cL.size) 28;have bI:(aY #[28,28] 28 #[u6,J (O ⟨cT.heap.size,0,L⟩) 1 1]).run Z (cT.alloc (au #[U V a1,U V b1,J c7 c6 bX] 88))=.ok lJ b9:=bI;have i8:=A ((c9.o.trans (cL.mono c9.o.size)).grown hG (ah c9.o.size cL.size) (fun j cY=>((dK e8.o cL).lt j cY).1));have jD:=A i1;clear hO cL i1 hG;go_wp2_with (first | (at_builtin; refine wpList_append_run rfl _ _ 28 rfl rfl rfl bI ?_) | fail)
    go_roundw
    case rel=>exact⟨q+1,cC,by go_num,i8.o,by rw [g6.o,g9.o]; simpa using jD.o⟩
    case measure=>simp [intOf]; omega
  ·obtain rfl:S=q:=by omega
   have hF:aE.take S=aE:=aZ (by have:=cV.o; omega);rw [hF] at cM;clear hF;have g5:=A (show eY (xQ w) (aE.filter (keepW (c,d))) (nY b (c,d)) from g8.o.fil _ _ fun a b h=>by unfold keepW; rw [h.1]);generalize aE.filter (keepW (c,d))=ls at *;obtain⟨la,G,hQ⟩:=(aW cM.o).len;obtain⟨ln,f2⟩:∃ n,n=ls.length:=⟨_,rfl⟩;rw [<- f2] at hQ;subst hQ;have j8:=A f2;clear f2;have gC:=A (show (nY b (c,d)).length=ln from by rw [j8.o,g5.o.len]);have gE:=A (show b.own.length=S from by rw [<- g8.o.len,cV.o]);have dT:=A (eS.o.trans (b2.o.mono eS.o.size));have cW:=A (eM.o.on b2.o);have i6:=A (dC.o.on b2.o);have cD:=A (eN.o.on b2.o);have jB:=A (e6.o.on b2.o);clear eS eM dC eN e6;obtain⟨bM,bO,bP,bT,bW,b9⟩:=cW.o.fA;by_cases f1:ln=S
   ·have l0:((ln:Int) == (S:Int))=bV:=by simp [f1]
    have j4:=A (bA.o.on dT.o);obtain⟨l4,l5,l6,l7,l8,r5⟩:=cD.o.fA;obtain⟨i9,iG,iS,j0,j1,j2⟩:=cD.o.kg;have g0:=cD.o.lt;have e4:=A (dM cD.o (U V me) (J no I H) (J F a2 u) (J N M sc) (J b6 b5 b4) (J b8 S b7));have cU:=A (dJ (b:=w.heap.size+1+1) dT.o (by omega) (U V me) (J no I H) (J F a2 u) (J N M sc) (J b6 b5 b4) (J b8 S b7));have d7:=A (fun j (_:j<wr.heap.size) (cY:j≠w.heap.size+1+1)=>dP wr (w.heap.size+1+1) (U V me) (J no I H) (J F a2 u) (J N M sc) (J b6 b5 b4) (J b8 S b7) j cY);have e5:=A (fK (s1:=(L,0,0)) (s2:=(L,0,0)) (s3:=(L,0,0)) (s4:=(L,0,0)) (s5:=(L,0,0)) j4.o cD.o d7.o (bA.o.near.on cU.o));go_wp2_with fail;obtain⟨v0,fV,fW,v3,v4,v5⟩:=e4.o.fA;refine aV (v:=.tuple #[aX #[U V me,J no I H,J F a2 u,J N M sc,J b6 b5 b4,J b8 S b7],J L 0 0]) (by simp [results,Tryz.results18,go_sem,v0,fV,fW,v3,v4,v5]) rfl ?_;have kO:fM b (c,d)=(b,[]):=by unfold fM; rw [if_pos (by rw [gC.o,gE.o]; exact f1)]
    rw [kO];exact⟨⟨(b6,b5,b4),(b8,S,b7),(L,0,0),rfl,e5.o,uf _⟩,cU.o⟩
   ·have l0:((ln:Int) == (S:Int))=false:=by simp; omega
    have j3:=A (show fM b (c,d)=ig b (c,d) b.dQ.length from by unfold fM; rw [if_neg (by rw [gC.o,gE.o]; exact f1)]);have kK:=cW.o.fr 5;have g0:=cW.o.lt;go_upto_region 11 with fail;clear bM bO bP bT bW b9;have c8:=A (dT.o.setCell (p:=⟨w.heap.size,5,L⟩) (aD _) (J la ln G));have eA:=eD (k:=5) cW.o (J la ln G);simp only [List.setIfInBounds_toArray,List.set_cons_zero,List.set_cons_succ] at eA;have h1:dN _ _ _ _:=(bJ wr ⟨w.heap.size,5,L⟩ (J la ln G) _ (show w.heap.size+1≠w.heap.size by omega)).trans i6.o;have h2:dN _ _ _ _:=(bJ wr ⟨w.heap.size,5,L⟩ (J la ln G) _ (show w.heap.size+1+1≠w.heap.size by omega)).trans cD.o;have gI:=A (eF cM.o w.heap.size 5 (J la ln G) (by have:=k2.o; omega));have e2:=A (show iT _ { b with own:=nY b (c,d) } (no,I,H) (F,a2,u) (N,M,sc) (b6,b5,b4) (la,ln,G) from ⟨bA.o.near.on c8.o,(bA.o.on c8.o).dQ,(bA.o.on c8.o).seen,(bA.o.on c8.o).ent,⟨ls,aW gI.o,g5.o.mono fun _ _ h=>h.on c8.o⟩⟩);clear g0 kK gI cM b2 dT cW i6 cD jB;generalize wr.setCell ⟨w.heap.size,5,L⟩ (J la ln G)=mL at *;have i0:=A (c8.o);have e9:=A (eA);have i4:=A (h1);have i5:=A (h2);clear c8 eA h1 h2;obtain⟨h3,hH,hI⟩:=e2.o.dQ;obtain⟨e0,bI,hS⟩:=hH.len;obtain rfl:a2=b.dQ.length:=by have bB:(J F a2 u)=J e0 h3.length bI:=hS; have cA:a2=h3.length:=(by simpa using congrArg (fun v=>match v with|Value.slice _ n _=>n|_=>0) bB); rw [cA,hI.len]
    clear hS hH hI;obtain⟨a2,m9⟩:∃ n,n=b.dQ.length:=⟨_,rfl⟩;have g1:=A (show b.dQ.length<=900 from j7.o);obtain⟨bM,bO,bP,bT,bW,b9⟩:=e9.o.fA;go_wp2_with fail;clear bM bO bP bT bW b9
    go_loopw [9,42] (fun v i wr=>∃ (k:Nat) (a6:OA) (a7 a8:Nat) (cQ:OA) (cS cR:Nat),k<=b.dQ.length/\i=U V k/\v=J cQ cS cR/\Below w.heap.size w wr/\dN wr w.heap.size #[U V me,J no I H,J F b.dQ.length u,J N M sc,J a6 a7 a8,J la ln G] 30/\dN wr (w.heap.size+1) #[U V c,U V d] 23/\dN wr (w.heap.size+1+1) #[U V 0,J L 0 0,J L 0 0,J L 0 0,J L 0 0,J L 0 0] 30/\iT wr (ig b (c,d) k).1 (no,I,H) (F,b.dQ.length,u) (N,M,sc) (a6,a7,a8) (la,ln,G)/\lZ wr (cQ,cS,cR) (ig b (c,d) k).2) (fun _ i _=>b.dQ.length-(intOf i).toNat)
    case atStart=>exact⟨0,b6,b5,b4,L,0,0,bL _,rfl,rfl,i0.o,e9.o,i4.o,i5.o,e2.o,uf _⟩
    case round =>
     clear e2 i0 e9 i4 i5;obtain⟨k,a6,a7,a8,cQ,cS,cR,f0,rfl,rfl,hM,hT,hU,hV,cX,d0⟩:=hrel;have dZ:=A (hM);have eE:=A (hT);have h4:=A (hU);have bC:=A (hV);have d9:=A (cX);have eI:=A (d0);clear hM hT hU hV cX d0;have UK:=A (ng b (c,d) k f0);have l2:=g1.o;by_cases cC:k<b.dQ.length
     ·have kQ:(k:Int)<(b.dQ.length:Int):=by omega
      have l1:IntKind.i64.wrap ((k:Int)+1)=(k:Int)+1:=IntWalk.i64_in _ (by omega);obtain⟨a,eW⟩:∃ a,b.dQ[k]?=O a:=⟨_,ak cC⟩;have dA:=A (lH b (c,d) eW);have jY:=A (rG b (c,d) (fun e=>dX e.p) (fun _ h=>h) jV.o k f0);have k0:=A (rG b (c,d) (fun e=>e.tree∈b.dQ.map Ad.id) (fun _ h=>h) j6.o k f0);obtain⟨m4,g4,e1⟩:=d9.o.dQ;rw [UK.o.1.dQ] at e1;obtain⟨z,hW,hX⟩:=e1.at k a eW;obtain⟨p,fN,d5⟩:=Mv g4 rfl (by rw [e1.len]) hW;obtain⟨d2,d3,d4,i2⟩:=d5 wr (aB _ _);obtain⟨cI,cJ,⟨z3,z4,z5⟩,fY⟩:=z;simp only at d2 d3 d4 i2;have k8:=A (show a.id=(cI,cJ) from hX.1.symm);clear d5 hW hX g4 e1 eW;go_upto_region 15 with fail;clear d2 d3 d4 i2 fN;have T:=fP wr (au #[U V cI,U V cJ,J z3 z4 z5,U V fY] 36);have eJ:=A (dZ.o.trans (T.mono dZ.o.size));have eK:=A (eE.o.on T);have eL:=A (h4.o.on T);have h5:=A (bC.o.on T);have eB:=A (d9.o.on T);have h6:=A (eI.o.on T);clear dZ eE h4 bC d9 eI;clear T;have e7:=A (dR wr #[U V cI,U V cJ,J z3 z4 z5,U V fY] 36);generalize wr.alloc (au #[U V cI,U V cJ,J z3 z4 z5,U V fY] 36)=cT at *;have e3:=A (JN (ig b (c,d) k).1 (no,I,H) (F,b.dQ.length,u) (N,M,sc) (a6,a7,a8) (la,ln,G) (cI,cJ) (c,d) (-1) cT eB.o (by rw [UK.o.1.dQ]; exact g1.o) (ah UK.o.1.len gA.o) jY.o (by rw [UK.o.1.dQ]; exact k0.o));rw [UK.o.1.me,<- j9.o] at e3;obtain⟨bM,bO,bP,bT,bW,b9⟩:=eK.o.fA;obtain⟨fX,a1⟩:=eL.o.cs2;obtain⟨lO,lP,lR,lX⟩:=e7.o.Ib;rw [k8.o] at dA;have h0:=A (ng b (c,d) (k+1) cC);rw [dA.o] at h0;go_wp2_with fail;refine e3.o.mono ?_;rintro m6 w1 ⟨⟨⟨cF,cG,cH⟩,⟨lB,lE,lD⟩,rfl,cX,d0⟩,bE⟩;clear e3;clear bM bO bP bT bW b9 fX a1 lO lP lR lX;have eC:=A (eJ.o.trans (bE.mono eJ.o.size));have h7:=A (eK.o.on bE);have h8:=A (eL.o.on bE);have h9:=A (h5.o.on bE);have kB:=A (eB.o.on bE);have hA:=A (h6.o.on bE);have k9:=A (e7.o.on bE);clear eJ eK eL h5 eB h6 e7;have g2:=A cX;have gO:=A d0;clear bE cX d0 kB k9;go_upto_region 16 with fail;have g3:=A (g2.o.on (fP w1 (au #[U V me,J no I H,J F b.dQ.length u,J N M sc,J cF cG cH,J la ln G] 30)));have gR:=A (gO.o.on (fP w1 (au #[U V me,J no I H,J F b.dQ.length u,J N M sc,J cF cG cH,J la ln G] 30)));clear g2 gO;have T:=fP w1 (au #[U V me,J no I H,J F b.dQ.length u,J N M sc,J cF cG cH,J la ln G] 30);have k1:=A (eC.o.trans (T.mono eC.o.size));have d8:=A (h7.o.on T);have hC:=A (h8.o.on T);have hD:=A (h9.o.on T);have kE:=A (hA.o.on T);clear eC h7 h8 h9 hA;clear T;have kA:=A (dR w1 #[U V me,J no I H,J F b.dQ.length u,J N M sc,J cF cG cH,J la ln G] 30);generalize w1.alloc (au #[U V me,J no I H,J F b.dQ.length u,J N M sc,J cF cG cH,J la ln G] 30)=lK at *;obtain⟨lo,hP,f3⟩:=kE.o;obtain⟨l3,hE,eQ⟩:=gR.o;have m1:=UK.o.2;have m0:=Bv (ig b (c,d) k).1 (cI,cJ) (c,d) (-1);have m3:=UK.o.1.len;have fR:=gA.o;have m2:k * (b.ent.length+1)<=900 * 901:=Nat.mul_le_mul (by omega) (by omega);refine ak3 _ lK w.heap.size w1.heap.size me no F N cF la I H b.dQ.length u M sc cG cH ln G cQ lB cS cR lE lD lo l3 _ _ _ _ _ _ d8.o kA.o hP hE (by rw [f3.len]; omega) (by rw [eQ.len]; omega) ?_;intro x mM mB mC mD mH mI mK hL cP cN hK;have g7:=A (k1.o.trans (hK _ (aD _)));have k5:=A hL;have k6:=A (show dN _ _ _ _ from (cN _ hC.o.lt (by omega)).trans hC.o);have k7:=A (show dN _ _ _ _ from (cN _ hD.o.lt (by omega)).trans hD.o);have i7:=A (fK (s1:=(no,I,H)) (s2:=(F,b.dQ.length,u)) (s3:=(N,M,sc)) (s4:=(a6,a7,a8)) (s5:=(la,ln,G)) g3.o d8.o cN (by rw [show (jv (ig b (c,d) k).1 (cI,cJ) (c,d) (-1)).1.near=b.near from h0.o.1.near]; exact bA.o.near.on g7.o));have jI:=A ((F9 (s1:=(no,I,H)) (s2:=(F,b.dQ.length,u)) (s3:=(N,M,sc)) (s4:=(a6,a7,a8)) (s5:=(la,ln,G)) f3 d8.o cN).append (F9 (s1:=(no,I,H)) (s2:=(F,b.dQ.length,u)) (s3:=(N,M,sc)) (s4:=(a6,a7,a8)) (s5:=(la,ln,G)) eQ d8.o cN));obtain⟨l9,lA,f8⟩:=(aW cP).len;have gS:=A (aW cP);rw [f8] at gS;rw [f8];clear hL cP cN hK hP f3 hE eQ f8 g3 gR;go_wp2_with fail
      go_roundw
      case rel=>exact⟨k+1,cF,cG,cH,l9,_,lA,cC,by go_num,rfl,g7.o,k5.o,k6.o,k7.o,by rw [dA.o]; exact i7.o,by rw [dA.o]; exact⟨_,gS.o,jI.o⟩⟩
      case measure=>simp [intOf]; omega
     ·obtain rfl:k=b.dQ.length:=by omega
      obtain⟨bM,bO,bP,bT,bW,b9⟩:=eE.o.fA;obtain⟨l4,l5,l6,l7,l8,r5⟩:=bC.o.fA;obtain⟨i9,iG,iS,j0,j1,j2⟩:=bC.o.kg;have g0:=bC.o.lt;have e4:=A (dM bC.o (U V me) (J no I H) (J F b.dQ.length u) (J N M sc) (J a6 a7 a8) (J la ln G));have cU:=A (dJ (b:=w.heap.size+1+1) dZ.o (by omega) (U V me) (J no I H) (J F b.dQ.length u) (J N M sc) (J a6 a7 a8) (J la ln G));have d7:=A (fun j (_:j<wr.heap.size) (cY:j≠w.heap.size+1+1)=>dP wr (w.heap.size+1+1) (U V me) (J no I H) (J F b.dQ.length u) (J N M sc) (J a6 a7 a8) (J la ln G) j cY);have e5:=A (fK (s1:=(L,0,0)) (s2:=(L,0,0)) (s3:=(L,0,0)) (s4:=(L,0,0)) (s5:=(L,0,0)) d9.o bC.o d7.o (by rw [UK.o.1.near]; exact bA.o.near.on cU.o));have j5:=A (gy (s1:=(L,0,0)) (s2:=(L,0,0)) (s3:=(L,0,0)) (s4:=(L,0,0)) (s5:=(L,0,0)) eI.o bC.o d7.o);go_wp2_with fail;obtain⟨v0,fV,fW,v3,v4,v5⟩:=e4.o.fA;refine aV (v:=.tuple #[aX #[U V me,J no I H,J F b.dQ.length u,J N M sc,J a6 a7 a8,J la ln G],J cQ cS cR]) (by simp [results,Tryz.results18,go_sem,v0,fV,fW,v3,v4,v5]) rfl ?_;rw [j3.o];exact⟨⟨(a6,a7,a8),(la,ln,G),(cQ,cS,cR),rfl,e5.o,j5.o⟩,cU.o⟩
end Bk
namespace Av
open Go.RowKit Go.Sort Rw YtghlpefopidlaaaGreat.Nm Pr Bk
end Av
namespace Av
open Go.RowKit Go.Sort Rw YtghlpefopidlaaaGreat.Nm Pr Bk
structure qF (W:aA) (b:Br) (nv av sv ev ov:Sl):Prop where
 br:iT W b nv av sv ev ov
 no:mo W nv b.near
theorem qF.on {W j:aA} {b:Br} {u av G q F:Sl} (h:qF W b u av G q F) (r:Below W.heap.size W j):qF j b u av G q F:=⟨h.br.on r,h.no.on r⟩
theorem qF.keep {W j:aA} {k:Nat} {me:Int} {s1 s2 s3 s4 s5:Sl} {b:Br} {q av I r H:Sl} (h:qF W b q av I r H) (u:dN W k (jU me s1 s2 s3 s4 s5) 30) (F:But k W j):qF j b q av I r H:=by
 obtain⟨B,M⟩:=h.no;have G:zk j B (eu q) b.near:=F.own M u (by decide);exact⟨fK h.br u F.1 (aW G),B,G⟩
theorem aam (W:aA) (me:Int) {near:List Int} {j:Sl} (h:sW W (eu j) near):iT W ⟨me,near,[],[],[],[]⟩ j (L,0,0) (L,0,0) (L,0,0) (L,0,0):=⟨h,⟨[],jK _,.nil⟩,jK _,⟨[],jK _,.nil⟩,⟨[],jK _,.nil⟩⟩
theorem JK:∀ {l m:List Int},l.Pairwise (·<·)->m.Pairwise (·<·)->(∀ x,x∈l↔x∈m)->l=m
 | [],[],_,_,_=>rfl
 | [],y::m,_,_,h=>by have:=(h y).2 (by simp); simp at this
 | x::l,[],_,_,h=>by have:=(h x).1 (by simp); simp at this
 | x::l,y::m,G,H,h=>by
  have r:=dw.1 G;have u:=dw.1 H;have F:x=y:=by
   rcases bQ.1 ((h x).1 (by simp)) with e|e
   ·exact e
   ·rcases bQ.1 ((h y).2 (by simp)) with q|q
    ·exact q.symm
    ·have I:=u.1 x e;have M:=r.1 y q;omega
  subst F;rw [JK r.2 u.2 fun z=>⟨fun j=>?_,fun j=>?_⟩]
  ·rcases bQ.1 ((h z).1 (cu _ j)) with e|e
   ·have:=r.1 z j;omega
   ·exact e
  ·rcases bQ.1 ((h z).2 (cu _ j)) with e|e
   ·have:=u.1 z j;omega
   ·exact e
theorem Bq {W j:aA} {b:Nat} (h:W.grownBy j (O b)):But b W j:=⟨fun k q r=>h.block k q (by simpa using r),h.size⟩
theorem LJ {α G:Type} {E:Ek α} {r:Ek G} {W u:aA} {B B':Nat} {v F:aG} {l:List G} {m:List α} (N:Own r W B v l) (j:W.grownBy u v.ownBlock) (h:Own E W B' F m) (M:(E.t == r.t)=false):Own E u B' F m:=by
 rcases gD N with⟨q,_⟩|⟨g,c,cur,q,_,H,_⟩
 ·rw [q] at j;exact Bk.dK h ((aB _ _).grown j (aD _) (fun S I=>by cases I))
 ·rw [q] at j;exact (Bq (b:=g) j).own h H M
theorem mE {F:Type} {r:Ek F} {W u:aA} {B k:Nat} {v:aG} {l:List F} {cs:Array aG} {t:TypeId} (M:Own r W B v l) (j:W.grownBy u v.ownBlock) (h:dN W k cs t) (I:(t == r.t)=false):dN u k cs t:=by
 rcases gD M with⟨q,_⟩|⟨g,c,cur,q,_,G,_⟩
 ·rw [q] at j;exact h.on ((aB _ _).grown j (aD _) (fun N H=>by cases H))
 ·rw [q] at j;exact (Bq (b:=g) j).box h (lQ h G I)
end Av
namespace Bk
open Go.RowKit Go.Sort Rw YtghlpefopidlaaaGreat.Nm Pr
def FZ (b:Br) (f:Int) (x:Id):List nu:=if (iZ b x f).2=bV then nU b.near f (fun n=>(n,2,x.1,x.2,0,0,(L,0,0),(L,0,0))) else []
theorem mJ (b:Br) (x:Id) (f:Int):(iZ b x f).1.near=b.near/\(iZ b x f).1.me=b.me:=by
 unfold iZ
 split
 ·exact⟨rfl,rfl⟩
 ·split
  ·exact⟨rfl,rfl⟩
  ·split <;> exact⟨rfl,rfl⟩
theorem Ri (b:Br) (bI av bO cC bM:Sl) (x:Id) (f:Int) (w:aA) (h:iT w b bI av bO cC bM) (d0:b.near.length<=900) (d1:b.dQ.length<=900) (d2:b.ent.length<=900) :
  bR Z 120 #[mg b.me bI av bO cC bM,U V f,nP x] w fun e w'=>(∃ Eb ev' sl:Sl,e=aK (.tuple #[mg b.me bI Eb bO ev' bM,eu sl])/\iT w' (iZ b x f).1 bI Eb bO ev' bM/\Nf w' (eu sl) (FZ b f x))/\Below w.heap.size w w':=by
 obtain⟨no,F,u⟩:=bI;obtain⟨b8,b7,b6⟩:=av;obtain⟨M,I,sc⟩:=bO;obtain⟨bB,bA,b9⟩:=cC;obtain⟨H,q,G⟩:=bM;obtain⟨c,d⟩:=x;have c6:=A (fun W e3=>Nc b (no,F,u) (b8,b7,b6) (M,I,sc) (bB,bA,b9) (H,q,G) (c,d) f W (h.on (show Below w.heap.size w W from e3)) d1 d2);have bT:=A h.near;have dT:=A d0;obtain⟨cD,cF,cG,cH⟩:=gT w #[U V b.me,J no F u,J b8 b7 b6,J M I sc,J bB bA b9,J H q G] #[U V c,U V d] #[U V 0,J L 0 0,J L 0 0,J L 0 0,J L 0 0,J L 0 0] 30 23 30;obtain⟨me,cX⟩:∃ me,me=b.me:=⟨_,rfl⟩;simp only [<- cX] at cD cF cG cH c6 ⊢;have bX:=A cD;have c9:=A cF;have cA:=A cG;have cP:=A cH;clear cD cF cG cH h d0 d1 d2 cX;show bR Z 120 #[aX #[U V me,J no F u,J b8 b7 b6,J M I sc,J bB bA b9,J H q G],U V f,aX #[U V c,U V d]] w _;go_enter Tryz.func120,Tryz.ntmps120;go_upto_region 1 with fail;generalize (((w.alloc (au #[U V me,J no F u,J b8 b7 b6,J M I sc,J bB bA b9,J H q G] 30)).alloc (au #[U V c,U V d] 23)).alloc (au #[U V 0,J L 0 0,J L 0 0,J L 0 0,J L 0 0,J L 0 0] 30))=W at *;have cN:=A (c6.o W bX.o);have bP:=c9.o;have dA:=cA.o;obtain⟨d4,d5,d6,d7,d8,d9⟩:=bP.fA;obtain⟨eB,eC⟩:=dA.cs2;clear bP dA c6;go_wp2_with fail;refine cN.o.mono ?_;rintro eE w1 ⟨⟨⟨N,a2,a6⟩,⟨S,T,a1⟩,rfl,cV⟩,bC⟩;obtain⟨e0,c8⟩:∃ r,(iZ b (c,d) f).2=r:=⟨_,rfl⟩;have cM:=A c8;rw [c8];have cL:=A (bX.o.trans (bC.mono bX.o.size));have a8:=c9.o.on bC;have cQ:=cA.o.on bC;have cR:=cP.o.on bC;obtain⟨e5,e6,e7,e8,e9,eA⟩:=a8.fA;obtain⟨t0,t1,t2,t3,t4,t5⟩:=a8.kg;have dC:=a8.lt;have b4:=A (dM a8 (U V me) (J no F u) (J N a2 a6) (J M I sc) (J S T a1) (J H q G));have b1:=A (dJ (b:=w.heap.size) cL.o (aD _) (U V me) (J no F u) (J N a2 a6) (J M I sc) (J S T a1) (J H q G));have bW:=A (show dN _ _ _ _ from (dP w1 w.heap.size (U V me) (J no F u) (J N a2 a6) (J M I sc) (J S T a1) (J H q G) (w.heap.size+1) (by omega)).trans cQ);have a7:=A (show dN _ _ _ _ from (dP w1 w.heap.size (U V me) (J no F u) (J N a2 a6) (J M I sc) (J S T a1) (J H q G) (w.heap.size+1+1) (by omega)).trans cR);have b5:=A (fK (s1:=(no,F,u)) (s2:=(b8,b7,b6)) (s3:=(M,I,sc)) (s4:=(bB,bA,b9)) (s5:=(H,q,G)) cV a8 (fun j _ bE=>dP w1 w.heap.size (U V me) (J no F u) (J N a2 a6) (J M I sc) (J S T a1) (J H q G) j bE) (by rw [(mJ b (c,d) f).1]; exact bT.o.on b1.o));clear c8 cV bC cN c9 cA cP cL a8 cQ cR d4 d5 d6 d7 d8 d9 eB eC;go_upto_region 2 with fail;clear dC e5 e6 e7 e8 e9 eA t0 t1 t2 t3 t4 t5;unfold gH at b4 b1 bW a7 b5;generalize ((((((w1.setCell ⟨w.heap.size,0,L⟩ (U V me)).setCell ⟨w.heap.size,1,L⟩ (J no F u)).setCell ⟨w.heap.size,2,L⟩ (J N a2 a6)).setCell ⟨w.heap.size,3,L⟩ (J M I sc)).setCell ⟨w.heap.size,4,L⟩ (J S T a1)).setCell ⟨w.heap.size,5,L⟩ (J H q G))=d3 at *;cases e0
 ·have bP:=b4.o;have aE:=a7.o;obtain⟨d4,d5,d6,d7,d8,d9⟩:=bP.fA;obtain⟨eI,eJ,eK,eL,eM,r5⟩:=aE.fA;obtain⟨t0,t1,t2,t3,t4,t5⟩:=aE.kg;have dC:=aE.lt;have dE:=A (dM aE (U V me) (J no F u) (J N a2 a6) (J M I sc) (J S T a1) (J H q G));have b2:=A (dJ (b:=w.heap.size+1+1) b1.o (by omega) (U V me) (J no F u) (J N a2 a6) (J M I sc) (J S T a1) (J H q G));have c7:=A (fK (s1:=(L,0,0)) (s2:=(L,0,0)) (s3:=(L,0,0)) (s4:=(L,0,0)) (s5:=(L,0,0)) b5.o aE (fun j _ bE=>dP d3 (w.heap.size+1+1) (U V me) (J no F u) (J N a2 a6) (J M I sc) (J S T a1) (J H q G) j bE) (by rw [(mJ b (c,d) f).1]; exact bT.o.on b2.o));clear bP aE b5 b4 bW a7;go_wp2_with fail;obtain⟨v0,cI,cJ,v3,v4,v5⟩:=dE.o.fA;refine aV (v:=.tuple #[aX #[U V me,J no F u,J N a2 a6,J M I sc,J S T a1,J H q G],J L 0 0]) (by simp [results,Tryz.results120,go_sem,v0,cI,cJ,v3,v4,v5]) rfl ?_;exact⟨⟨(N,a2,a6),(S,T,a1),(L,0,0),rfl,c7.o,by unfold FZ; rw [cM.o]; exact Or.inl ⟨rfl,rfl⟩⟩,b2.o⟩
 ·go_upto_region 4 with fail;refine ZK _ d3 w.heap.size (w.heap.size+1) (w.heap.size+1+1) me f c d no N M S H F u a2 a6 I sc T a1 q G b.near _ _ _ _ _ _ b4.o bW.o a7.o (bT.o.on b1.o) dT.o ?_;intro a9 eN sl dZ e1 e2 cW cY cU cT;have b2:=A (b1.o.trans (cT w.heap.size (by omega)));have c7:=A (fK (s1:=(L,0,0)) (s2:=(L,0,0)) (s3:=(L,0,0)) (s4:=(L,0,0)) (s5:=(L,0,0)) b5.o a7.o (fun j e4 bE=>cU j e4 bE) (by rw [(mJ b (c,d) f).1]; exact bT.o.on b2.o));have dS:=A (aW cY);have cS:=cW;obtain⟨v0,cI,cJ,v3,v4,v5⟩:=cS.fA;clear cS cW cY cU cT b5 b4 bW a7;simp only [Exit.then]
  apply_assumption
  go_wp2_with fail;refine aV (v:=.tuple #[aX #[U V me,J no F u,J N a2 a6,J M I sc,J S T a1,J H q G],eu sl]) (by simp [results,Tryz.results120,go_sem,e1,e2,v0,cI,cJ,v3,v4,v5]) dZ ?_;exact⟨⟨(N,a2,a6),(S,T,a1),sl,rfl,c7.o,by unfold FZ; rw [cM.o]; exact dS.o⟩,b2.o⟩
end Bk
namespace Pr
open Go.RowKit Go.Sort Pu Rw Va
def ad4:ByteArray:=⟨#[112,114,101,100]⟩
def TV (w:aA) (l:List Cn) (e:Ending) (w':aA):Prop:=Below w.heap.size w w'/\(match Ep l with
 | .ok m=>∃ j,e=aK (.tuple #[j,.nilIface])/\fO w' j (m.map r5)
 | .error _=>∃ b,e=aK (.tuple #[J L 0 0,.iface 226 (aj (O ⟨b,0,L⟩))]))
theorem ad5 (j:ByteArray) (at_:Int) (tx:Nat) (x:aG) (w:aA) :
  bR Z 169 #[.string j,U V at_,.iface tx x] w fun e w'=>e=aK (.iface 226 (aj (O ⟨w.heap.size,0,L⟩)))/\w'=w.alloc (au #[.string j,U V at_,.iface tx x] 228):=by
 go_enter Tryz.func169,Tryz.ntmps169;go_wp2;go_ret;exact⟨rfl,rfl⟩
theorem Rk (at_:Nat) (m j:List Cn) (c:Cn):lG at_ m (c::j)=match pK m c with
  | .ok m'=>lG (at_+1) m' j
  | .error k=>.error (k,at_):=by
 simp only [lG,pK];cases qW m c with
 | none=>rfl
 | some m'=>simp only; split <;> rfl
theorem Ww {m:List Cn} {c:Cn} {m':List Cn} (h:kX m) (j:pK m c=.ok m'):kX m'/\m'.length<=5:=by
 unfold pK at j;cases q:qW m c with
 | none=>rw [q] at j; cases j
 | some n =>
  rw [q] at j;simp only at j
  split at j
  ·cases j
  ·rename_i r
   injection j with j
   subst j;exact⟨(kY m c n h q).1,by omega⟩
theorem aar (cG:aG) (l:List Cn) (w:aA) (bI:fO w cG (l.map r5)) (bP:YT l) (cA:∀ c∈l,xV c=bV):bR Z 134 #[cG] w (TV w l):=by
 have b7:=A bI;have bW:=A (show (l.map r5).length=l.length from aM ..);have cN:=bP.1;have cM:=A bP.2;have cI:=A cA;obtain⟨cT,cS,rfl⟩:=bI.len;rw [aM] at b7 ⊢;obtain⟨n,bM⟩:∃ n,n=l.length:=⟨_,rfl⟩;rw [<- bM] at b7 cN ⊢;have T:=A bM;obtain⟨b4,bO⟩:∃ r,r=Ep l:=⟨_,rfl⟩;have bX:=A (show ∀ e w',(Below w.heap.size w w'/\(match b4 with
 | .ok m=>∃ cH,e=aK (.tuple #[cH,.nilIface])/\fO w' cH (m.map r5)
 | .error _=>∃ b,e=aK (.tuple #[J L 0 0,.iface 226 (aj (O ⟨b,0,L⟩))])))->TV w l e w' from fun e w' h=>by unfold TV; rw [<- bO]; exact h)
 have cJ:=A bO;clear bI bP cA bM bO;generalize cQ:TV w l=q at *;clear cQ;go_enter Tryz.func134,Tryz.ntmps134;go_wp2
 go_loopw [13] (fun i wr=>∃ k:Nat,k<=n/\i=U V k/\Below w.heap.size w wr) (fun i _=>n-(intOf i).toNat)
 case atStart=>exact⟨0,bL _,rfl,aB _ _⟩
 case round =>
  obtain⟨k,cX,rfl,b1⟩:=hrel;have b6:=A b1;clear b1;by_cases cY:k<n
  ·obtain⟨⟨F,u⟩,I⟩:∃ x,l[k]?=O x:=⟨_,ak (by have:=T.o; omega)⟩;obtain⟨p,bA,b2⟩:=XG (x:=r5 (F,u)) b7.o rfl (bW.o.trans T.o.symm) (by rw [aN,I]; rfl);obtain⟨a1,a2,a6,a7,a8⟩:=b2 _ b6.o;have C:=A (adH (F,u) (wr.alloc (au (cells5 (r5 (F,u))).toArray 91)) (by have:=(cM.o _ (bg I)).1; unfold maxLen; omega));rw [cI.o _ (bg I)] at C;have G:=A (b6.o.alloc b6.o.size (au (cells5 (r5 (F,u))).toArray 91));simp only [r5] at a1 a2 a6 a7 a8 C;clear I b2;go_wp2_with fail;refine C.o.mono ?_;rintro c8 bB ⟨rfl,H⟩;have N:=A (G.o.trans (H.mono G.o.size));clear H C G bA a1 a2 a6 a7 a8;go_wp2
   go_roundw
   case rel=>exact⟨k+1,by omega,by go_num,N.o⟩
   case measure=>simp [intOf]; omega
  ·obtain rfl:k=n:=by omega
   go_wp2
   go_loopw [6,27] (fun cR i wr=>∃ (j:Nat) (m:List Cn),j<=k/\i=U V j/\iH wr w.heap.size cR (m.map r5)/\kX m/\m.length<=5/\b4=lG j m (l.drop j)/\Below w.heap.size w wr) (fun _ i _=>k-(intOf i).toNat)
   case atStart=>exact⟨0,[],bL _,rfl,iR _ _,bK,by simp,by rw [cJ.o]; rfl,b6.o⟩
   case round =>
    obtain⟨j,m,cV,rfl,cD,cF,cP,c6,b1⟩:=hrel;have S:=A b1;have b8:=A cD;have b9:=A cF;have bE:=A c6;clear b1 cD cF c6;by_cases cW:j<k
    ·obtain⟨⟨F,u⟩,I⟩:∃ x,l[j]?=O x:=⟨_,ak (by have:=T.o; omega)⟩;obtain⟨p,bA,b2⟩:=XG (x:=r5 (F,u)) b7.o rfl (bW.o.trans T.o.symm) (by rw [aN,I]; rfl);obtain⟨a1,a2,a6,a7,a8⟩:=b2 _ S.o;have G:=A (S.o.alloc S.o.size (au (cells5 (r5 (F,u))).toArray 91));have C:=A (Zb w.heap.size _ m (F,u) (wr.alloc (au (cells5 (r5 (F,u))).toArray 91)) (dK b8.o ((aB _ _).alloc (aD _) _)) b9.o cP G.o.size);have bT:l.drop j=(F,u)::l.drop (j+1):=by
      have h:=List.drop_eq_getElem_cons (l:=l) (i:=j) (by have:=T.o; omega);rw [h]
      congr 1
      exact (List.getElem?_eq_some_iff.1 I).2
     have aE:=bE.o;rw [bT,Rk] at aE;have b5:=A aE;simp only [r5] at a1 a2 a6 a7 a8 C;clear I b2 aE bT bE;cases M:pK m (F,u) with
     | ok m' =>
      have c7:=A (Ww b9.o M);have bC:=A (show b4=lG (j+1) m' (l.drop (j+1)) by rw [b5.o,M]);rw [M] at C;clear M b5;go_wp2_with fail;refine C.o.mono ?_;rintro c8 bB ⟨H,d0,rfl,cC⟩;have N:=A (G.o.trans H);have cL:=A cC;clear H cC C G bA a1 a2 a6 a7 a8 b8 S b9;go_wp2
      go_roundw
      case rel=>exact⟨j+1,m',by omega,by go_num,cL.o,c7.o.1,c7.o.2,bC.o,N.o⟩
      case measure=>simp [intOf]; omega
     | error c9 =>
      have bC:=A (show b4=.error (c9,j) by rw [b5.o,M]);rw [M] at C;clear M b5;go_wp2_with fail;refine C.o.mono ?_;rintro c8 bB ⟨H,rfl⟩;have N:=A (G.o.trans H);clear H C G bA a1 a2 a6 a7 a8 b8 S b9;go_wp2_with fail;refine (ad5 ad4 j 211 (U V c9) bB).mono ?_;rintro cU d1 ⟨rfl,rfl⟩;go_wp2;refine bX.o _ _ ⟨N.o.alloc N.o.size _,?_⟩;rw [bC.o];exact⟨bB.heap.size,rfl⟩
    ·obtain rfl:j=k:=by omega
     have aE:=A (show b4=.ok m by rw [bE.o,bU (by have:=T.o; omega)]; rfl);go_wp2;refine bX.o _ _ ⟨S.o,?_⟩;rw [aE.o];exact⟨_,rfl,aW b8.o⟩
end Pr
end Go.Proofs.YtghlpefopidlaaaGreat
