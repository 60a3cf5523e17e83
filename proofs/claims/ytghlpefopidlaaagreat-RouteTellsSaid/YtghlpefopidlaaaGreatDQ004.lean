/-
  slices.Insert of one. Conditions as told.
-/
import Derived.Test.YtghlpefopidlaaaGreatDQ001
import Derived.Deep.RegionWith
import Derived.Shelf.Slices.In.SortNone
import Derived.Shelf.Sort.Plain
import Derived.Shelf.Slices.CompactI
import Derived.Shelf.Slices.SearchI
import Derived.OpenShut
import Derived.Carry
import Derived.ChangeMaps5
import Derived.ChangeArms
set_option maxRecDepth 100000
set_option maxHeartbeats 64000000
open _root_.Bool renaming and_eq_true->ay,true->aG,false->aV,eq_iff_iff->bK
open _root_.Go renaming cell_regrown->aB,World->aD,Value->aF,bodyPost_ret->bG,maxLen->dB
open Go.Builtin renaming copy_->aY
open Go.Ending renaming returned->aS
open Go.Instr renaming sliceAt->ak
open Go.IntKind renaming i64->aC,wrap_i64->dD
open Go.Obj renaming cells->aI
open Go.Op renaming bytesLess->bH
open Go.Operand renaming tmp->aA
open Go.Proofs.Tryz renaming prog->X,underlying3->aQ,results53->aT,underlying24->aW,underlying0->aZ,underlying4->bf,zeroValue24->bg,ntmps53->bF,zeroValue0->bL,zeroValue3->bN,zeroValue4->bQ,func53->bR,ntmps106->bV,sizeOf24->bY,underlying155->cu,func106->cB,sizeOf0->cO,sizeOf3->cZ,sizeOf4->dh,isAgg24->dn,zeroValue155->dw,underlying52->dx,isAgg0->dH
open Go.Proofs.YtghlpefopidlaaaGreat.Wi renaming within->aj
open Go.Region renaming binds->aK
open Go.RowKit renaming Below->aP
open Go.RowKit.Below renaming refl->Y,heap_setCell->aU
open Go.Value renaming slice->U,pointer->ah,int->aJ,string->bD
open Go.World renaming cell?_alloc_at->aR,cell?_alloc_lt->bU
open _root_.List renaming getElem?_eq_getElem->Z,getElem?_toArray->aL,getElem?_eq_some_iff->aM,getElem?_cons_zero->aN,getElem?_cons_succ->aO,mem_append->bJ,pairwise_append->bS,find?_eq_none->bZ,length_take->dG
open _root_.Nat renaming le_refl->au,lt_or_ge->cK
open _root_.Option renaming some->J,none->O
open Option.some renaming inj->aH
open _root_.Or renaming inr->aX
namespace Go.Proofs.YtghlpefopidlaaaGreat.Av
open Go.RowKit Rw YtghlpefopidlaaaGreat.Nm Pr Bk
theorem YR {W:aD} {b:Nat} {c:fB} (h:dN W b (kZ c).toArray 23):yL W (U (J ⟨b,0,O⟩) 1 1) [c] :=
 aX ⟨⟨b,0,O⟩,1,rfl,by simp,by decide,uK h (by simp [EJ])⟩
def Fe (B:Nat) (l:List fB) (k:Nat) (c:fB) (r:aF) (W:aD) (e:Ending) (w':aD):Prop:=∃ q,e=aS q/\tq w' B q (l.take k++c::l.drop k)/\aP B W w'/\(∀ j,j<W.heap.size->J j≠r.ownBlock->w'.heap[j]?=W.heap[j]?)
theorem Ns (B:Nat) (v:aF) (l:List fB) (c:fB) (b:Nat) (W:aD) (j:tq W B v l) (S:dN W b (kZ c).toArray 23) (a6:l.length<=900) (hB:B<=W.heap.size) :
  Calls X 106 #[v,aJ aC (l.length:Nat),U (J ⟨b,0,O⟩) 1 1] W (Fe B l l.length c v W):=by
 obtain⟨G,w',u,H,q⟩:=iC Eu B j (YR S) (by omega) (by simp) hB 26;have u:(Builtin.append_ #[26,26] 26 #[v,U (J ⟨b,0,O⟩) 1 1]).run X W=.ok G w':=u;have Q:=hq (show Fe B l l.length c v W (aS G) w' from ⟨G,rfl,by rw [List.take_of_length_le (au _),List.drop_of_length_le (au _)]; exact H,(Y B W).grown q hB (fun F r=>(j.lt F r).1),fun F r N=>q.block F r N⟩);obtain⟨T,I,_⟩:=qU Eu (Row.dL j) l.length (au _);have I:∀ w,(ak 26 v (J (aJ aC l.length)) O O).run X w=.ok T w:=I;obtain⟨a2,a1,rfl⟩:=(Row.dL j).len;clear j H q;generalize M:l.length=n at *;clear M;go_enter cB,bV;go_wp2_with (first | (at_builtin; refine wpList_append_run rfl _ _ 26 rfl rfl rfl u ?_) | fail);go_ret;exact Q.o
theorem YS (w:aD) (g b k la q cb:Nat) (cur cs:Array aF) (j:dN w b cs 23) (r:dN w g cur 23) (u:b≠g) (F:0<cur.size):(callFunc 142 #[U (J ⟨b,0,O⟩) la 1,U (J ⟨g,k,O⟩) q cb]).run X w=.ok (.value (.bool aV)) w:=by
 rw [run_callFunc_extern Tryz.func142 (by kernel_rfl) (by kernel_rfl) (by kernel_rfl) (e:=Extern.SlicesOverlaps.overlaps #[26,26] #[4]) (by kernel_rfl),
  Lib.run_overlaps_apart w 26 4 23 Tryz.underlying26 2 Tryz.sizeOf23 ⟨b,0,O⟩ ⟨g,k,O⟩ la 1 q cb u 23 23 cs.size cur.size j.shape r.shape (by omega) (j.fr 0) (j.fr _)]
 rfl
theorem Iq (B g n cap:Nat) (cur:Array aF) (l:List fB) (k:Nat) (c:fB) (b:Nat) (W:aD) (I:n=l.length) (F:B<=g) (u:dN W g cur 23) (S:cap<=dB) (a1:cur.size=cap * 2) (a2:cur.toList.take (n * 2)=flat EJ l) (M:dN W b (kZ c).toArray 23) (r:b≠g) (bE:k<n) (bM:n+1<=cap) (bI:n<=900) :
  Calls X 106 #[U (J ⟨g,0,O⟩) n cap,aJ aC k,U (J ⟨b,0,O⟩) 1 1] W (Fe B l k c (U (J ⟨g,0,O⟩) n cap) W):=by
 obtain⟨q,H,a8,aE,a6⟩:=sZ (E:=EJ) (l:=l) (k:=k) (cap:=cap) (cur:=cur) (cs:=(kZ c).toArray) (c:=c) Eu (by omega) (by omega) a1 (by rw [<- I]; exact a2) g b r;have T:=fun b9 cb=>YS W g b ((k+1) * 2) 1 b9 cb cur (kZ c).toArray M u r (by omega);have s0:=iw (E:=EJ) Eu g k n cap (by omega) (by omega);have s1:=kI (E:=EJ) Eu ⟨g,0,O⟩ (n+1) n cap (by omega);have s2:=iw (E:=EJ) Eu g (k+1) (n+1) cap (by omega) (by omega);have s3:=iw (E:=EJ) Eu g k (n+1) cap (by omega) (by omega);have G:=a8 W.drew 3 (n+1-(k+1)) (cap-(k+1)) (n+1-k) (cap-k) u (by omega);have a7:=aE (W.drew.setRow g q) 3 (n+1-k) (cap-k) (dN.set (show dN W.drew g cur 23 from u) q) (dN.other (show dN W.drew b _ 23 from M) r q) rfl (by omega);have Q:=hq (show Fe B l k c (U (J ⟨g,0,O⟩) n cap) W (aS (U (J ⟨g,0,O⟩) (n+1) cap)) ((W.drew.setRow g q).setRow g H) from ⟨_,rfl,by rw [I]; exact a6 _ B F S (dN.set (dN.set (show dN W.drew g cur 23 from u) q) H),below_setRow (below_setRow (Y B W).drew F _) F _,fun j bC r=>(setRow_other _ g j _ (fun e=>r (by rw [e]; rfl))).trans (setRow_other _ g j _ (fun e=>r (by rw [e]; rfl)))⟩);clear a8 aE a6 u a2 M a1 F S;change ∀ w,(ak 26 (U (J ⟨g,0,O⟩) n cap) (J (aJ aC k)) O O).run X w=.ok (U (J ⟨g,k * 2,O⟩) (n-k) (cap-k)) w at s0;change ∀ w,(ak 26 (U (J ⟨g,0,O⟩) n cap) O (J (aJ aC ((n:Int)+1))) O).run X w=.ok (U (J ⟨g,0,O⟩) (n+1) cap) w at s1;change ∀ w,(ak 26 (U (J ⟨g,0,O⟩) (n+1) cap) (J (aJ aC ((k:Int)+1))) O O).run X w=.ok (U (J ⟨g,(k+1) * 2,O⟩) (n+1-(k+1)) (cap-(k+1))) w at s2;change ∀ w,(ak 26 (U (J ⟨g,0,O⟩) (n+1) cap) (J (aJ aC k)) O O).run X w=.ok (U (J ⟨g,k * 2,O⟩) (n+1-k) (cap-k)) w at s3;have bA:((k:Int) == (n:Int))=aV:=by rw [beq_eq_false_iff_ne]; omega
 have bB:decide ((cap:Int)<(n:Int)+1)=aV:=by simp; omega
 change (aY #[26,26] 3 #[U (J ⟨g,(k+1) * 2,O⟩) (n+1-(k+1)) (cap-(k+1)),U (J ⟨g,k * 2,O⟩) (n+1-k) (cap-k)]).run X W.drew=.ok (aJ aC ((l.length-k:Nat):Int)) (W.drew.setRow g q) at G;change (aY #[26,26] 3 #[U (J ⟨g,k * 2,O⟩) (n+1-k) (cap-k),U (J ⟨b,0,O⟩) 1 1]).run X (W.drew.setRow g q)=.ok (aJ aC 1) ((W.drew.setRow g q).setRow g H) at a7;clear I;go_enter cB,bV;go_wp2_with (first | (simp only [T]) | fail);clear T s0 s1 s2 s3;have b8:IntKind.i64.wrap ((k:Int)+1)=(k:Int)+1:=by rw [dD]; omega
 have b2:(0:Int)<=(k:Int)+1:=by omega
 have b1:(k:Int)+1<=(n:Int)+1:=by omega
 have b7:((k:Int)+1).toNat=k+1:=by omega
 have b4:¬ (cap=k+1):=by omega
 have b5:(k:Int)<=(n:Int)+1:=by omega
 have b6:¬ (cap=k):=by omega
 have N:n+1-(k+1)=n-k:=by omega
 rw [N] at G;clear N
 go_region_law (refine iW rfl (aA 73) (aA 76) 26 rfl (v:=U (J ⟨g,(k+1) * 2,O⟩) (n-k) (cap-(k+1))) (xv:=U (J ⟨g,k * 2,O⟩) (n+1-k) (cap-k)) (by simp [Act.eval,Act.put]) (by simp [Act.eval,Act.put]) G ?_)
 all_goals simp only [Exit.then]
 all_goals apply_assumption
 clear G b8 b2 b1 b7 b4 b5 b6;have s3:=iw (E:=EJ) Eu g k (n+1) cap (by omega) (by omega);change ∀ w,(ak 26 (U (J ⟨g,0,O⟩) (n+1) cap) (J (aJ aC k)) O O).run X w=.ok (U (J ⟨g,k * 2,O⟩) (n+1-k) (cap-k)) w at s3;go_wp2_with (first | (at_builtin; refine wpList_copy_run rfl _ _ 26 rfl rfl rfl a7 ?_) | fail);go_ret;exact Q.o
theorem Lc (B g n cap:Nat) (cur:Array aF) (l:List fB) (k:Nat) (c:fB) (b:Nat) (W:aD) (u:n=l.length) (I:dN W g cur 23) (bB:cap<=dB) (cA:n<=cap) (aE:cur.toList.take (n * 2)=flat EJ l) (S:dN W b (kZ c).toArray 23) (c8:k<n) (cC:cap<n+1) (c9:n<=900) (hB:B<=W.heap.size) :
  Calls X 106 #[U (J ⟨g,0,O⟩) n cap,aJ aC k,U (J ⟨b,0,O⟩) 1 1] W (Fe B l k c (U (J ⟨g,0,O⟩) n cap) W):=by
 have c7:=I.lt;have bA:=S.lt;obtain⟨G,q,r,M,bM,b9,b4,b5,b6,b2⟩:=vL (E:=EJ) (l:=l) (k:=k) (cap:=cap) (cur:=cur) (cs:=(kZ c).toArray) (c:=c) Eu 3 aQ (by omega) (by omega) (by omega) (by omega) (by rw [<- u]; exact aE) W g b I bA;unfold dB at bB b9;have s0:=iw (E:=EJ) Eu g k n cap (by omega) (by omega);have s1:=kI (E:=EJ) Eu ⟨g,0,O⟩ k n cap (by omega);have s2:=iw (E:=EJ) Eu W.heap.size k (n+1) G (by omega) (by omega);have s3:=iw (E:=EJ) Eu W.heap.size (k+1) (n+1) G (by omega) (by omega);have H:=b4 26;have F:=dR W.drew q 23;have a2:W.drew.heap.size=W.heap.size:=rfl;rw [a2] at F;have a6:dN (W.drew.alloc (aI q 23)) g cur 23:=dN.more (show dN W.drew g cur 23 from I) _;have b7:dN (W.drew.alloc (aI q 23)) b (kZ c).toArray 23:=dN.more (show dN W.drew b _ 23 from S) _;have T:=b5 (W.drew.alloc (aI q 23)) 3 (n+1-k) (G-k) F b7 rfl (by omega);have a1:=b6 ((W.drew.alloc (aI q 23)).setRow W.heap.size r).drew 3 (n+1-(k+1)) (G-(k+1)) (n-k) (cap-k) (dN.set F r) (dN.other a6 (by omega) r) (by omega);have Q:=hq (show Fe B l k c (U (J ⟨g,0,O⟩) n cap) W (aS (U (J ⟨W.heap.size,0,O⟩) (n+1) G)) (((W.drew.alloc (aI q 23)).setRow W.heap.size r).drew.setRow W.heap.size M) from ⟨_,rfl,by rw [u]; exact b2 _ B hB (dN.set (dN.set F r) M),below_setRow (below_setRow ((Y B W).drew.alloc hB _) hB _).drew hB _,fun j a8 _=>(setRow_other _ W.heap.size j _ (by omega)).trans ((setRow_other _ W.heap.size j _ (by omega)).trans (Array.getElem?_push_lt a8 |>.trans (Array.getElem?_eq_getElem a8).symm))⟩);have b1:l.length+1=n+1:=by rw [u]
 rw [b1,<- u] at H;clear b4 b5 b6 b2 I aE S a6 b7 F a2 b1;change ∀ w,(ak 26 (U (J ⟨g,0,O⟩) n cap) (J (aJ aC k)) O O).run X w=.ok (U (J ⟨g,k * 2,O⟩) (n-k) (cap-k)) w at s0;change ∀ w,(ak 26 (U (J ⟨g,0,O⟩) n cap) O (J (aJ aC k)) O).run X w=.ok (U (J ⟨g,0,O⟩) k cap) w at s1;change ∀ w,(ak 26 (U (J ⟨W.heap.size,0,O⟩) (n+1) G) (J (aJ aC k)) O O).run X w=.ok (U (J ⟨W.heap.size,k * 2,O⟩) (n+1-k) (G-k)) w at s2;change ∀ w,(ak 26 (U (J ⟨W.heap.size,0,O⟩) (n+1) G) (J (aJ aC ((k:Int)+1))) O O).run X w=.ok (U (J ⟨W.heap.size,(k+1) * 2,O⟩) (n+1-(k+1)) (G-(k+1))) w at s3;change (Builtin.append_ #[26,3] 26 #[U (J ⟨g,0,O⟩) k cap,aJ aC ((n:Int)+1-k)]).run X W=.ok (U (J ⟨W.heap.size,0,O⟩) (n+1) G) (W.drew.alloc (aI q 23)) at H;change (aY #[26,26] 3 #[U (J ⟨W.heap.size,k * 2,O⟩) (n+1-k) (G-k),U (J ⟨b,0,O⟩) 1 1]).run X (W.drew.alloc (aI q 23))=.ok (aJ aC 1) ((W.drew.alloc (aI q 23)).setRow W.heap.size r) at T;change (aY #[26,26] 3 #[U (J ⟨W.heap.size,(k+1) * 2,O⟩) (n+1-(k+1)) (G-(k+1)),U (J ⟨g,k * 2,O⟩) (n-k) (cap-k)]).run X ((W.drew.alloc (aI q 23)).setRow W.heap.size r).drew=.ok (aJ aC ((l.length-k:Nat):Int)) (((W.drew.alloc (aI q 23)).setRow W.heap.size r).drew.setRow W.heap.size M) at a1;have bE:((k:Int) == (n:Int))=aV:=by rw [beq_eq_false_iff_ne]; omega
 have bI:decide ((cap:Int)<(n:Int)+1)=aG:=by simp; omega
 have bO:n+1<=G:=by omega
 clear u;generalize W.heap.size=N at *;generalize W.drew.alloc (aI q 23)=b8 at *;generalize b8.setRow N r=bC at *;go_enter cB,bV;go_wp2_with (first | (at_builtin; refine jA rfl _ _ 26 3 rfl rfl rfl H ?_) | (at_builtin; refine wpList_copy_run rfl _ _ 26 rfl rfl rfl T ?_) | fail);clear H T s0 s1 s2 s3;have cF:IntKind.i64.wrap ((k:Int)+1)=(k:Int)+1:=by rw [dD]; omega
 have bT:(0:Int)<=(k:Int)+1:=by omega
 have bP:(k:Int)+1<=(n:Int)+1:=by omega
 have cD:((k:Int)+1).toNat=k+1:=by omega
 have bW:¬ (G=k+1):=by omega
 have bX:(k:Int)<=(n:Int):=by omega
 have c6:¬ (cap=k):=by omega
 have a7:n+1-(k+1)=n-k:=by omega
 rw [a7] at a1;clear a7
 go_region_law (refine iW rfl (aA 50) (aA 53) 26 rfl (v:=U (J ⟨N,(k+1) * 2,O⟩) (n-k) (G-(k+1))) (xv:=U (J ⟨g,k * 2,O⟩) (n-k) (cap-k)) (by simp [Act.eval,Act.put]) (by simp [Act.eval,Act.put]) a1 ?_)
 all_goals simp only [Exit.then]
 all_goals apply_assumption
 go_wp2;go_ret;exact Q.o
theorem Nt (B:Nat) (v:aF) (l:List fB) (k:Nat) (c:fB) (b:Nat) (W:aD) (H:tq W B v l) (u:dN W b (kZ c).toArray 23) (S:v.ownBlock≠J b) (T:k<=l.length) (r:l.length<=900) (hB:B<=W.heap.size) :
  Calls X 106 #[v,aJ aC k,U (J ⟨b,0,O⟩) 1 1] W (Fe B l k c v W):=by
 rcases cK k l.length with h|h
 ·rcases gD H with⟨_,j⟩|⟨g,cap,cur,rfl,I,j,M,F,N,G⟩
  ·rw [j] at h; simp at h
  ·rcases cK cap (l.length+1) with q|q
   ·exact Lc B g _ cap cur l k c b W rfl j F M G u h q r hB
   ·exact Iq B g _ cap cur l k c b W rfl I j F N G u (fun e=>S (by simp [Value.ownBlock,e])) h q r
 ·obtain rfl:k=l.length:=by omega
  exact Ns B v l c b W H u r hB
end Go.Proofs.YtghlpefopidlaaaGreat.Av
namespace Go.Proofs.YtghlpefopidlaaaGreat.Pr
open Go.RowKit Go.Sort Pu Rw Va
def kC:List C5->List C5->Bool
 | [],[]=>aG
 | x::l,y::m=>DN x y && kC l m
 | _,_=>aV
theorem Jc:∀ l m,kC l m=aG->l.length=m.length
 | [],[],_=>rfl
 | x::l,y::m,h=>by
  simp only [kC,ay] at h;simp [Jc l m h.2]
 | [],y::m,h=>by simp [kC] at h
 | x::l,[],h=>by simp [kC] at h
theorem Jd:∀ l m,l.length=m.length->(∀ (k:Nat) (x y:C5),l[k]?=J x->m[k]?=J y->DN x y=aG)->kC l m=aG
 | [],[],_,_=>rfl
 | x::l,y::m,j,h=>by
  simp only [kC,ay];exact⟨h 0 x y rfl rfl,Jd l m (by simpa using j) (fun k a b q r=>h (k+1) a b (by simpa using q) (by simpa using r))⟩
 | [],y::m,j,_=>by simp at j
 | x::l,[],j,_=>by simp at j
theorem Je:∀ (l m:List C5) (k:Nat) (x y:C5),l[k]?=J x->m[k]?=J y->DN x y=aV->kC l m=aV
 | [],_,k,x,y,h,_,_=>by simp at h
 | _::_,[],k,x,y,_,h,_=>by simp at h
 | a::l,b::m,0,x,y,j,q,r=>by
  simp at j q;subst j q;simp [kC,r]
 | a::l,b::m,k+1,x,y,j,q,r=>by
  simp only [kC,Je l m k x y (by simpa using j) (by simpa using q) r,Bool.and_false]
theorem tF:∀ l m:List C5,kC l m=aG↔l=m
 | [],[]=>by simp [kC]
 | x::l,y::m=>by
  simp only [kC,ay,M8,tF l m,List.cons.injEq]
 | [],y::m=>by simp [kC]
 | x::l,[]=>by simp [kC]
theorem xg (bO b7:aF) (l m:List C5) (w:aD) (a1:fO w bO l) (a2:fO w b7 m) (cR:l.length<=1000000) (_:m.length<=1000000) :
  Calls X 64 #[bO,b7] w fun e w'=>e=aS (.bool (kC l m))/\Below w.heap.size w w':=by
 have bP:=hq a1;have b2:=hq a2;obtain⟨cL,cJ,rfl⟩:=a1.len;obtain⟨cN,cM,rfl⟩:=a2.len;clear a1 a2;by_cases I:l.length=m.length
 ·have S:=hq I;rw [<- I] at b2 ⊢;generalize bI:l.length=n at *;have M:=hq bI;clear I bI;go_enter Tryz.func64,Tryz.ntmps64;go_wp2
  go_loopw [5] (fun i wr=>∃ k:Nat,k<=n/\i=aJ aC k/\Below w.heap.size w wr/\∀ (j:Nat) (x y:C5),j<k->l[j]?=J x->m[j]?=J y->DN x y=aG) (fun i _=>n-(intOf i).toNat)
  case atStart=>exact⟨0,Nat.zero_le _,rfl,Y _ _,fun j x y h=>by omega⟩
  case round =>
   obtain⟨k,cQ,rfl,bC,bB⟩:=hrel;have u:=hq bC;have b1:=hq bB;clear bC bB;by_cases bE:k<n
   ·obtain⟨x,a7⟩:∃ x,l[k]?=J x:=⟨_,Z (by rw [M.o]; exact bE)⟩;obtain⟨y,a8⟩:∃ y,m[k]?=J y:=⟨_,Z (by rw [<- S.o]; exact bE)⟩;obtain⟨p,bT,F⟩:=XG bP.o rfl M.o a7;obtain⟨q,bW,G⟩:=XG b2.o rfl S.o.symm a8;have bX:=aB (F _ u.o).1;have c6:=aB (F _ u.o).2.1;have c7:=aB (F _ u.o).2.2.1;have c8:=aB (F _ u.o).2.2.2.1;have c9:=aB (F _ u.o).2.2.2.2;have cA:=aB (G _ u.o).1;have cC:=aB (G _ u.o).2.1;have cD:=aB (G _ u.o).2.2.1;have cF:=aB (G _ u.o).2.2.2.1;have cG:=aB (G _ u.o).2.2.2.2;clear F G;obtain⟨r,a6⟩:∃ r,DN x y=r:=⟨_,rfl⟩;have bM:=anQ x y r a6;have b5:=hq a7;have b6:=hq a8;have b4:=hq a6;clear a7 a8 a6;cases r
    ·have R:=hq (show kC l m=aV from Je l m k x y b5.o b6.o b4.o);go_wp2;refine ko ?_
     repeat (go_big_quiet_step (fail))
     refine kr fun T aE=>?_;go_wp2;go_ret;exact⟨eG R.o.symm,u.o.trans ((below_regrown wr T aE).mono u.o.size)⟩
    ·go_wp2;refine ko ?_
     repeat (go_big_quiet_step (fail))
     refine kr fun T aE=>?_;clear bT bW bX c6 c7 c8 c9 cA cC cD cF cG bM;go_wp2
     go_roundw
     case rel=>exact⟨k+1,by omega,by go_num,u.o.trans ((below_regrown wr T aE).mono u.o.size),fun j cH cI cP H N=>by
      rcases cK j k with bA|bA
      ·exact b1.o j cH cI bA H N
      ·obtain rfl:j=k:=by omega
       have b8:=b5.o;have b9:=b6.o;rw [H] at b8;rw [N] at b9;rw [aH b8,aH b9];exact b4.o⟩
     case measure=>simp [intOf]; omega
   ·obtain rfl:k=n:=by omega
    have R:=hq (show kC l m=aG from Jd l m (by rw [M.o]; exact S.o) (fun j a b H N=>b1.o j a b (by have:=(aM.1 H).1; have:=M.o; omega) H N));go_wp2;go_ret;exact⟨eG R.o.symm,u.o⟩
 ·have R:=hq (show kC l m=aV by
   cases h:kC l m
   ·rfl
   ·exact absurd (Jc _ _ h) I)
  have bM:(((l.length:Nat):Int) != ((m.length:Nat):Int))=aG:=by simp; omega
  have cS:(((l.length:Nat):Int) == ((m.length:Nat):Int))=aV:=by simp; omega
  clear I;go_enter Tryz.func64,Tryz.ntmps64;go_wp2;go_ret;exact⟨eG R.o.symm,Y _ _⟩
end Go.Proofs.YtghlpefopidlaaaGreat.Pr
namespace Go.Proofs.YtghlpefopidlaaaGreat.Pr
open Go.RowKit Pu Rw Va Kp
def lo9 (n:Int):Int:=aj (n.tdiv 4) 0 9
def tx6 (n:Int):ByteArray:=xW (aj (n.tdiv 4) 0 6)
def vQ (n:Int):Kd:=if aj n 0 3=0\/aj n 0 3=1 then .rg (lo9 n) (lo9 n+aj (n.tdiv 40) 0 9) else if aj n 0 3=2 then .tx (tx6 n) else .pr (tx6 n)
theorem Vx (n:Int):jM (vQ n)=aG:=by
 unfold vQ;have q:=Wi.jy (n.tdiv 40) 0 9 (by omega);have j:(tx6 n).size<=3:=MV _
 split
 ·simp only [jM,decide_eq_true_eq]; omega
 ·split
  ·simp only [jM,decide_eq_true_eq]; omega
  ·simp only [jM,decide_eq_true_eq]; omega
theorem Tc (n k:Int) (r:1<=k) (j:-9223372036854775808<=n) (q:n<=9223372036854775807):-9223372036854775808<=n.tdiv k/\n.tdiv k<=9223372036854775807:=by
 rcases Int.le_total 0 n with h|h
 ·rw [Int.tdiv_eq_ediv_of_nonneg h];have a:=Int.ediv_nonneg h (show 0<=k by omega);have b:=Int.ediv_le_self k h;omega
 ·have e:n.tdiv k=-((-n) / k):=by rw [<- Int.tdiv_eq_ediv_of_nonneg (by omega),Int.neg_tdiv,Int.neg_neg]
  have a:=Int.ediv_nonneg (show 0<=-n by omega) (show 0<=k by omega);have b:=Int.ediv_le_self k (show 0<=-n by omega);omega
theorem Fg (F:ByteArray) (n:Int) (w:aD) (M:-9223372036854775808<=n) (N:n<=9223372036854775807) :
  Calls X 53 #[bD F,aJ aC n] w fun e w'=>e=aS (cv (r5 (F,vQ n)))/\aP w.heap.size w w':=by
 have u:=Tc n 4 (by decide) M N;have I:=Tc n 40 (by decide) M N;have bA:IntKind.i64.wrap (n.tdiv 4)=n.tdiv 4:=IntWalk.i64_in _ u;have bB:IntKind.i64.wrap (n.tdiv 40)=n.tdiv 40:=IntWalk.i64_in _ I;have H:=hq (fun r=>Wi.iM n 0 3 r (by omega) (by omega) (by omega) M N);have a8:=hq (fun r=>Wi.iM (n.tdiv 4) 0 9 r (by omega) (by omega) (by omega) u.1 u.2);have a7:=hq (fun r=>Wi.iM (n.tdiv 4) 0 6 r (by omega) (by omega) (by omega) u.1 u.2);have a6:=hq (fun r=>Wi.iM (n.tdiv 40) 0 9 r (by omega) (by omega) (by omega) I.1 I.2);have aE:=Wi.jy n 0 3 (by omega);have b4:=Wi.jy (n.tdiv 4) 0 9 (by omega);have j:=Wi.jy (n.tdiv 4) 0 6 (by omega);have b6:=Wi.jy (n.tdiv 40) 0 9 (by omega);have q:vQ n=if aj n 0 3=0\/aj n 0 3=1 then .rg (aj (n.tdiv 4) 0 9) (aj (n.tdiv 4) 0 9+aj (n.tdiv 40) 0 9) else if aj n 0 3=2 then .tx (xW (aj (n.tdiv 4) 0 6)) else .pr (xW (aj (n.tdiv 4) 0 6)):=rfl
 have a2:=hq (adb (aj (n.tdiv 4) 0 6) j.1 j.2);generalize aj n 0 3=S at *;generalize aj (n.tdiv 4) 0 9=p at *;generalize aj (n.tdiv 4) 0 6=G at *;generalize aj (n.tdiv 40) 0 9=s at *;have b9:IntKind.i64.wrap (p+s)=p+s:=IntWalk.i64_in _ (by omega);have b7:S=0\/S=1\/S=2\/S=3:=by omega
 have a1:=hq j;clear u I M N aE b4 b6 j;rcases b7 with rfl|rfl|rfl|rfl
 ·have K:=hq (show vQ n=.rg p (p+s) by rw [q]; rfl);clear q;go_enter bR,bF;go_wp2_with fail;refine (H.o _).mono ?_;rintro T w1 ⟨rfl,rfl⟩;go_wp2_with fail;refine (a8.o _).mono ?_;rintro b5 b8 ⟨rfl,rfl⟩;go_wp2_with fail
  go_region_with (go_at_call 14; refine (a6.o _).mono ?_; rintro e w' ⟨rfl,rfl⟩)
  all_goals go_wp2_with fail
  all_goals exact bG (v:=cv (r5 (F,.rg p (p+s)))) (by simp [results,aT,go_sem,r5,kN,kS,kU,kT]) rfl ⟨by rw [K.o],(((Y _ _).alloc (au _) _).alloc (by simp) _).drew⟩
 ·have K:=hq (show vQ n=.rg p (p+s) by rw [q]; rfl);clear q;go_enter bR,bF;go_wp2_with fail;refine (H.o _).mono ?_;rintro T w1 ⟨rfl,rfl⟩;go_wp2_with fail;refine (a8.o _).mono ?_;rintro b5 b8 ⟨rfl,rfl⟩;go_wp2_with fail
  go_region_with (go_at_call 14; refine (a6.o _).mono ?_; rintro e w' ⟨rfl,rfl⟩)
  all_goals go_wp2_with fail
  all_goals exact bG (v:=cv (r5 (F,.rg p (p+s)))) (by simp [results,aT,go_sem,r5,kN,kS,kU,kT]) rfl ⟨by rw [K.o],(((Y _ _).alloc (au _) _).alloc (by simp) _).drew⟩
 ·have K:=hq (show vQ n=.tx (xW G) by rw [q]; rfl);have tx:=a2.o;have j:=a1.o;have b1:=j.1;have b2:G<7:=by omega
  clear q j;go_enter bR,bF;go_wp2_with fail;refine (H.o _).mono ?_;rintro T w1 ⟨rfl,rfl⟩;go_wp2_with fail
  go_region_with (first | (go_at_call 14; refine (a7.o _).mono ?_; rintro e w' ⟨rfl,rfl⟩) | (go_at_call 122; refine (IQ _).mono ?_; rintro e w' ⟨rfl,rfl⟩))
  all_goals go_wp2_with fail
  all_goals exact bG (v:=cv (r5 (F,.tx (xW G)))) (by simp [results,aT,go_sem,r5,kN,kS,kU,kT]) rfl ⟨by rw [K.o],((((Y _ _).alloc (au _) _).alloc (by simp) _).alloc (by simp; omega) _).drew⟩
 ·have K:=hq (show vQ n=.pr (xW G) by rw [q]; rfl);have tx:=a2.o;have j:=a1.o;have b1:=j.1;have b2:G<7:=by omega
  clear q j;go_enter bR,bF;go_wp2_with fail;refine (H.o _).mono ?_;rintro T w1 ⟨rfl,rfl⟩;go_wp2_with fail
  go_region_with (first | (go_at_call 14; refine (a7.o _).mono ?_; rintro e w' ⟨rfl,rfl⟩) | (go_at_call 122; refine (IQ _).mono ?_; rintro e w' ⟨rfl,rfl⟩))
  all_goals go_wp2_with fail
  all_goals exact bG (v:=cv (r5 (F,.pr (xW G)))) (by simp [results,aT,go_sem,r5,kN,kS,kU,kT]) rfl ⟨by rw [K.o],((((Y _ _).alloc (au _) _).alloc (by simp) _).alloc (by simp; omega) _).drew⟩
end Go.Proofs.YtghlpefopidlaaaGreat.Pr
namespace Go.Proofs.YtghlpefopidlaaaGreat.Pr
open Go.RowKit Pu Rw Va Kp In
def om (has j:List Int):Nat->List Cn
 | 0=>[]
 | i+1=>if i<has.length/\odd (has.getD i 0)=aG/\(om has j i).length<5 then om has j i++[(nm i,vQ (vM j i))] else om has j i
theorem Td (has j:List Int):∀ k,(om has j k).length<=k
 | 0=>au _
 | k+1=>by
  have h:=Td has j k;simp only [om]
  split
  ·simp; omega
  ·omega
theorem Nu (has j:List Int):∀ k,(om has j k).length<=5
 | 0=>by simp [om]
 | k+1=>by
  have h:=Nu has j k;simp only [om]
  split
  ·rename_i q; simp; omega
  ·exact h
theorem xu (has q:List Int):∀ k,∀ x∈om has q k,∃ i,i<k/\x.1=nm i
 | 0,x,h=>by simp [om] at h
 | k+1,x,h=>by
  simp only [om] at h
  split at h
  ·rcases bJ.1 h with h|h
   ·obtain⟨i,r,j⟩:=xu has q k x h;exact⟨i,by omega,j⟩
   ·simp at h;exact⟨k,by omega,by rw [h]⟩
  ·obtain⟨i,r,j⟩:=xu has q k x h;exact⟨i,by omega,j⟩
theorem Fh (has j:List Int):∀ k,∀ x∈om has j k,jM x.2=aG
 | 0,x,h=>by simp [om] at h
 | k+1,x,h=>by
  simp only [om] at h
  split at h
  ·rcases bJ.1 h with h|h
   ·exact Fh has j k x h
   ·simp at h;rw [h]; exact Vx _
  ·exact Fh has j k x h
theorem ads (i j:Nat) (h:i<j) (q:j<7):bH (nm i).toList (nm j).toList=aG:=by
 rw [ByteArray.toList_eq,ByteArray.toList_eq];have:∀ j:Fin 7,∀ i:Fin 7,i.val<j.val->bH (nm i.val).data.toList (nm j.val).data.toList=aG:=by decide
 exact this ⟨j,q⟩ ⟨i,by omega⟩ h
theorem Nv (has j:List Int):∀ k,k<=7->kX (om has j k)
 | 0,_=>by simp [om,kX]
 | k+1,G=>by
  have h:=Nv has j k (by omega);simp only [om]
  split
  ·refine bS.2 ⟨h,List.pairwise_singleton _ _,fun x F y q=>?_⟩;obtain⟨i,r,u⟩:=xu has j k x F;simp at q;rw [q,u];exact ads i k r (by omega)
  ·exact h
theorem zD (w:aD) (c:C5):fO (w.alloc (aI #[bD c.1,aJ aC c.2.1,aJ aC c.2.2.1,aJ aC c.2.2.2.1,bD c.2.2.2.2] 91)) (U (J ⟨w.heap.size,0,O⟩) 1 1) [c] :=
 Row.dL (jL wV w [c] 1 rfl (by simp) _ rfl)
theorem Nw (M G:aF) (has q:List Int) (w:aD) (b9:lY w M has) (bB:lY w G q) (bC:has.length<=dB) (a6:q.length<=dB) :
  Calls X 15 #[.agg #[M,G]] w fun e w'=>∃ v,e=aS v/\iH w' w.heap.size v ((om has q 7).map r5)/\aP w.heap.size w w':=by
 have b1:=hq b9;have b2:=hq bB;have cJ:=hq bC;have bW:=hq a6;clear b9 bB bC a6;go_enter Tryz.func15,Tryz.ntmps15;go_wp2_with fail;refine (U5 _).mono ?_;rintro c8 w1 ⟨rfl,rfl⟩;go_wp2
 go_loopw [3,8] (fun a6 i wr=>∃ k:Nat,k<=7/\i=aJ aC k/\iH wr (w.heap.size+2) a6 ((om has q k).map r5) /\
  aP (w.heap.size+2) ((w.alloc (aI #[M,G] 52)).alloc (aI zu 9)) wr) (fun _ i _=>7-(intOf i).toNat)
 case atStart=>exact⟨0,by omega,rfl,iR _ _,Y _ _⟩
 case round =>
  obtain⟨k,cS,rfl,a2,r⟩:=hrel;have H:=hq a2;have S:=hq r;have b5:aP w.heap.size w ((w.alloc (aI #[M,G] 52)).alloc (aI zu 9)):=((Y _ _).alloc (au _) _).alloc (by simp) _;have a7:=hq (b5.trans (r.mono (by omega)));have cG:w.heap.size+2<=wr.heap.size:=by have:=r.size; simp at this; omega
  clear b5;obtain⟨cY,cM,bA⟩:=(Row.dL a2).len;rw [List.length_map] at bA;have cU:=Td has q k;by_cases c9:k<7
  ·have cX:wr.cell? ⟨w.heap.size+1,k,O⟩=J (bD (nm k)):=by
    rw [r.cell (p:=⟨w.heap.size+1,k,O⟩) (by simp),aR _ _ _ _ (by simp)]; exact akj k c9
   have b0:wr.cell? ⟨w.heap.size,0,O⟩=J M:=by
    rw [r.cell (p:=⟨w.heap.size,0,O⟩) (by simp),bU _ _ _ (by simp),aR _ _ _ _ rfl]; rfl
   have cP:wr.cell? ⟨w.heap.size,1,O⟩=J G:=by
    rw [r.cell (p:=⟨w.heap.size,1,O⟩) (by simp),bU _ _ _ (by simp),aR _ _ _ _ rfl]; rfl
   have bP:=hq (b1.o.on a7.o);obtain⟨cL,cN,cF⟩:=b1.o.shape;clear r a2;subst cF;subst bA;have cT:(k:Int)<7:=by omega
   by_cases aE:k<has.length
   ·obtain⟨y,N⟩:∃ y,has[k]?=J y:=⟨_,Z aE⟩;have I:has.getD k 0=y:=by rw [List.getD_eq_getElem?_getD,N]; rfl
    obtain⟨_,p,_,cR,cV⟩:=bP.o.at_ k y N;cases u:odd y
    ·have T:=hq (show om has q (k+1)=om has q k by simp only [om]; rw [if_neg]; rintro⟨_,F,_⟩; rw [I,u] at F; cases F);have cD:(bits BinOp.and aC y 1 == 1)=aV:=u;clear u N I;go_wp2
     go_roundw
     case rel=>exact⟨k+1,by omega,by go_num,by rw [T.o]; exact H.o,S.o⟩
     case measure=>simp [intOf]; omega
    ·have cD:(bits BinOp.and aC y 1 == 1)=aG:=u;by_cases b7:(om has q k).length<5
     ·have T:=hq (show (om has q (k+1)).map r5=(om has q k).map r5++[r5 (nm k,vQ (vM q k))] by simp only [om]; rw [if_pos ⟨aE,by rw [I,u],b7⟩,List.map_append]; rfl);have c7:=hq (fun (W:aD) (cA:aP w.heap.size w W)=>XW G q k W (b2.o.on cA) bW.o (by omega));have a8:=XY b2.o k;have bT:=hq (fun W=>Fg (nm k) (vM q k) W a8.1 a8.2);clear u N I a8;go_wp2_with fail;refine (c7.o _ a7.o).mono ?_;rintro c8 w1 ⟨rfl,rfl⟩;go_wp2_with fail;refine (bT.o _).mono ?_;rintro cQ cH ⟨rfl,a1⟩;have bM:=hq a1;have bX:=hq (dK H.o a1);have cW:=a1.size;clear a1;generalize r5 (nm k,vQ (vM q k))=c at T ⊢;have b4:=hq (bX.o.alloc (aI #[bD c.1,aJ aC c.2.1,aJ aC c.2.2.1,aJ aC c.2.2.2.1,bD c.2.2.2.2] 91));obtain⟨v3,cI,bI,bE,b6⟩:=iC wV (w.heap.size+2) b4.o (zD cH c) (by simp; omega) (by simp) (by simp; omega) 34;have c6:=hq bE;have b8:aP (w.heap.size+2) wr cI:=((bM.o.mono cG).alloc (by omega) _).grown b6 (by simp; omega) (fun j cC=>(b4.o.lt j cC).1);have bO:=hq (S.o.trans b8);clear bE b6 b8;go_wp2_with (first | (at_builtin; refine wpList_append_run rfl _ _ 34 rfl rfl rfl bI ?_) | fail);clear bI;go_wp2
      go_roundw
      case rel=>exact⟨k+1,by omega,by go_num,by rw [T.o]; exact c6.o,bO.o⟩
      case measure=>simp [intOf]; omega
     ·have T:=hq (show om has q (k+1)=om has q k by simp only [om]; rw [if_neg]; rintro⟨_,_,F⟩; exact b7 F);clear u N I;go_wp2
      go_roundw
      case rel=>exact⟨k+1,by omega,by go_num,by rw [T.o]; exact H.o,S.o⟩
      case measure=>simp [intOf]; omega
   ·have T:=hq (show om has q (k+1)=om has q k by simp only [om]; rw [if_neg]; rintro⟨F,_⟩; exact aE F);go_wp2
    go_roundw
    case rel=>exact⟨k+1,by omega,by go_num,by rw [T.o]; exact H.o,S.o⟩
    case measure=>simp [intOf]; omega
  ·obtain rfl:k=7:=by omega
   clear r a2;go_wp2;go_ret;exact⟨_,rfl,sU (by omega) H.o,a7.o⟩
def QG (c:Cn):Prop:=c.1.size<=100/\(kT c.2).size<=100/\(-9223372036854775808<=kS c.2/\kS c.2<=9223372036854775807)/\(-9223372036854775808<=kU c.2/\kU c.2<=9223372036854775807)
def YT (l:List Cn):Prop:=l.length<=100/\∀ c∈l,QG c
structure NF (l:List Cn):Prop where
 rise:kX l
 five:l.length<=5
 good:∀ c∈l,xV c=aG
 small:∀ c∈l,QG c
theorem NF.jM {l:List Cn} (h:NF l):∀ c∈l,Pr.jM c.2=aG:=fun c j=>by
 have:=h.good c j;simp only [xV,ay] at this;exact this.2
theorem YU (i:Nat) (h:i<7):lV (nm i)=aG:=by
 match i,h with
 | 0,_=>decide
 | 1,_=>decide
 | 2,_=>decide
 | 3,_=>decide
 | 4,_=>decide
 | 5,_=>decide
 | 6,_=>decide
theorem adt (i:Nat):(nm i).size=1:=rfl
theorem YV (n:Int):(kT (vQ n)).size<=100/\(-9223372036854775808<=kS (vQ n)/\kS (vQ n)<=9223372036854775807)/\(-9223372036854775808<=kU (vQ n)/\kU (vQ n)<=9223372036854775807):=by
 have j:=Wi.jy (n.tdiv 4) 0 9 (by omega);have q:=Wi.jy (n.tdiv 40) 0 9 (by omega);have r:(tx6 n).size<=3:=MV _;unfold vQ lo9
 split
 ·refine⟨by show (0:Nat)<=100; omega,?_,?_⟩ <;> simp only [kS,kU] <;> omega
 ·split
  ·refine⟨by show (tx6 n).size<=100; omega,?_,?_⟩ <;> simp only [kS,kU] <;> omega
  ·refine⟨by show (tx6 n).size<=100; omega,?_,?_⟩ <;> simp only [kS,kU] <;> omega
theorem AQ (has j:List Int):∀ k,∀ x∈om has j k,QG x
 | 0,x,h=>by simp [om] at h
 | k+1,x,h=>by
  simp only [om] at h
  split at h
  ·rcases bJ.1 h with h|h
   ·exact AQ has j k x h
   ·simp at h;rw [h];exact⟨by show (nm k).size<=100; rw [adt]; omega,YV _⟩
  ·exact AQ has j k x h
theorem YW (has j:List Int):NF (om has j 7) :=
 ⟨Nv has j 7 (au _),Nu has j 7,fun c q=>by
  obtain⟨i,r,u⟩:=xu has j 7 c q;simp only [xV,ay];exact⟨by rw [u]; exact YU i r,Fh has j 7 c q⟩,AQ has j 7⟩
theorem aiH {a b:Cn} (h:r5 a=r5 b):a=b:=by
 obtain⟨n,a⟩:=a;obtain⟨m,b⟩:=b;simp only [r5,Prod.mk.injEq] at h;obtain⟨rfl,j,q,r,u⟩:=h;cases a <;> cases b <;> simp [kN,kS,kU,kT] at j q r u <;> simp [*]
end Go.Proofs.YtghlpefopidlaaaGreat.Pr
namespace Go.Proofs.YtghlpefopidlaaaGreat.Bk
open Go.RowKit Rw YtghlpefopidlaaaGreat.Nm Pr
def SV (B j _:Nat) (r:OA) (q sc at_:Nat) (lo u:aF) (z:iY) (lt F:List iY) (i:Nat) (v:aF) (x:aD):Prop :=
 match i with
 | 0=>∃ g,v=U (J ⟨g,0,O⟩) 0 0/\B<=g/\dN x g #[] 67
 | 1=>v=ah (J ⟨j,4,O⟩)
 | 2=>v=U r q sc
 | 3=>v=aJ aC (at_:Int)
 | 4=>v=lo
 | 5=>jJ x B v lt
 | 6=>v=qd z
 | 7=>jJ x B v [z]
 | 8=>jJ x B v (lt++[z])
 | 9=>v=ah (J ⟨j,4,O⟩)
 | 10=>v=U r q sc
 | 11=>v=aJ aC (at_:Int)
 | 12=>v=u
 | 13=>jJ x B v (lt++[z]++F)
 | 14=>v=ah (J ⟨j,4,O⟩)
 | _=>True
noncomputable def aeQ:Code:=((Tryz.f57.body.bind (eX 8)).getD .skip)
theorem YG (B q b3:Nat) (G:OA) (F sc at_:Nat) (lo r:aF) (z:iY) (lt u:List iY) (i:Nat) (v:aF) (x H:aD) (h:SV B q b3 G F sc at_ lo r z lt u i v x) (j:aP x.heap.size x H):SV B q b3 G F sc at_ lo r z lt u i v H:=by
 by_cases S:i<15
 ·rcases (by omega:i=0\/i=1\/i=2\/i=3\/i=4\/i=5\/i=6\/i=7\/i=8\/i=9\/i=10\/i=11\/i=12\/i=13\/i=14) with rfl|rfl|rfl|rfl|rfl|rfl|rfl|rfl|rfl|rfl|rfl|rfl|rfl|rfl|rfl
  ·obtain⟨g,I,M,N⟩:=h;exact⟨g,I,M,N.on j⟩
  ·exact h
  ·exact h
  ·exact h
  ·exact h
  ·exact dK h j
  ·exact h
  ·exact dK h j
  ·exact dK h j
  ·exact h
  ·exact h
  ·exact h
  ·exact h
  ·exact dK h j
  ·exact h
 ·unfold SV
  split <;> first | omega | trivial
theorem Vq (Q:Exit->Act->aD->Prop) (W:aD) (q b3:Nat) (me:Int) (hY hZ i0 i1:aF) (S:OA) (N sc at_:Nat) (l:List iY) (z:iY) {bT bW d5 e0 u6 f6 u9 bX u11 c9 u13 cA cC cD cF cG cH cI cJ cL cM cN cP cQ cR cS cT cU cV cW cX cY d0 d1 d2 d3 d4 d6 d7 d8 d9 dA dC dE dS dT dZ e1 e2 e3 e4 e5 e6 e7 e8 e9 eA eB eC eE eI eJ eK eL eM eN eQ eR eS eV eW f0 f1 f2 f3 f4 f5 f7 f8 f9 fL fN fR fS fV fW fX fY g0 g1 g2 g3 g4 g5 hV hW hX hJ hK hL hM hN hO hP hQ hR hS hT hU c6 c7 c8:aF}
  (b5:dN W q #[aJ aC me,hY,hZ,i0,U S N sc,i1] 30) (hF:∀ x,aP W.heap.size W x->∀ j u,(jE z)[j]?=J u->x.cell? ((⟨b3,0,O⟩:Addr).add j)=J u) (bE:mF W (U S N sc) l) (hC:at_<=l.length) (k2:l.length<=900)
  (hA:∀ (x:aD) (h0 h1 h2 g6 g7 g8 g9 gA gC gE gI gO gR T gS:aF),dN x q #[aJ aC me,hY,hZ,i0,T,i1] 30->jJ x W.heap.size T (l.take at_++[z]++l.drop at_)->(∀ B,B<=q->aP B W x)->(∀ c cs t,c≠q->dN W c cs t->dN x c cs t)->(∀ k,k<W.heap.size->k≠q->x.heap[k]?=W.heap[k]?)->Q .normal ⟨(bT::bW::ah (J ⟨q,0,O⟩)::ah (J ⟨b3,0,O⟩)::d5::e0::u6::aJ aC (at_:Int)::f6::u9::bX::u11::c9::u13::cA::cC::cD::cF::cG::cH::cI::cJ::cL::cM::cN::cP::cQ::cR::cS::cT::cU::cV::cW::cX::cY::d0::d1::d2::d3::d4::d6::d7::d8::d9::dA::dC::dE::dS::dT::dZ::e1::e2::e3::e4::e5::e6::e7::e8::e9::eA::eB::eC::eE::eI::eJ::eK::eL::eM::eN::eQ::eR::eS::eV::eW::f0::f1::f2::f3::f4::f5::f7::f8::f9::fL::fN::fR::fS::fV::fW::fX::fY::g0::g1::g2::g3::g4::g5::h0::h1::h2::g6::g7::g8::g9::gA::gC::gE::gI::gO::gR::T::gS::c6::c7::c8::[]).toArray,[]⟩ x) :
  Code.wp X aeQ Q ⟨(bT::bW::ah (J ⟨q,0,O⟩)::ah (J ⟨b3,0,O⟩)::d5::e0::u6::aJ aC (at_:Int)::f6::u9::bX::u11::c9::u13::cA::cC::cD::cF::cG::cH::cI::cJ::cL::cM::cN::cP::cQ::cR::cS::cT::cU::cV::cW::cX::cY::d0::d1::d2::d3::d4::d6::d7::d8::d9::dA::dC::dE::dS::dT::dZ::e1::e2::e3::e4::e5::e6::e7::e8::e9::eA::eB::eC::eE::eI::eJ::eK::eL::eM::eN::eQ::eR::eS::eV::eW::f0::f1::f2::f3::f4::f5::f7::f8::f9::fL::fN::fR::fS::fV::fW::fX::fY::g0::g1::g2::g3::g4::g5::hV::hW::hX::hJ::hK::hL::hM::hN::hO::hP::hQ::hR::hS::hT::hU::c6::c7::c8::[]).toArray,[]⟩ W:=by
 have h5:=hq hA;have b4:=hq b5;have i5:=hq hF;obtain⟨lo,h6,i2⟩:=yK nE bE at_ (by omega);obtain⟨b6,h7,h4⟩:=qU nE bE (at_) hC;have h8:=hq (show (l.take at_).length<=1000 by rw [dG]; omega);have iG:=hq (show (l.take at_).length<=900 by rw [dG]; omega);have i4:=hq (show (l.drop (at_)).length<=1000 by rw [List.length_drop]; omega);generalize l.take at_=lt at *;generalize l.drop (at_)=b8 at *;have i9:=hq h6;have i8:=hq h7;have i7:=hq i2;have i6:=hq h4;clear hA b5 hF bE h6 h7 i2 h4 hC k2;have bI:=YG W.heap.size q b3 S N sc at_ lo b6 z lt b8;unfold aeQ
 conv=>arg 2; whnf
 have nd:∀ j,(j<97\/112<=j)->∀ i,i<15->(fun i=>97+i) i≠j:=by
  intro j M i hE h;simp only at h;omega
 refine Rg.gN 16 15 (fun i=>97+i) (fun i=>if i=0 then 5 else if i=5 then 8 else if i=7 then 8 else if i=8 then 13 else 15) (SV W.heap.size q b3 S N sc at_ lo b6 z lt b8) (by kernel_rfl) (by kernel_rfl) rfl (by decide) (fun i j _ _ h=>by have b5:97+i=97+j:=h; omega) (fun i hE=>by show 97+i<115; omega) ?_ (fun _=>Rg.kJ 1 (by kernel_rfl)) (fun kE o kB b5=>by omega) ?_
 ·intro i o hE H a x D k4 a7 a2 F seen K G;clear h5;rcases (by omega:i=0\/i=1\/i=2\/i=3\/i=4\/i=5\/i=6\/i=7\/i=8\/i=9\/i=10\/i=11\/i=12\/i=13\/i=14) with rfl|rfl|rfl|rfl|rfl|rfl|rfl|rfl|rfl|rfl|rfl|rfl|rfl|rfl|rfl
  ·cases H;exact Rg.dI rfl rfl (Rg.iX a.eval _ 27 0 #[] rfl rfl (by simp [go_sem])) (G (U (J ⟨x.heap.size,0,O⟩) 0 0) (x.alloc (aI #[] 67)) ⟨x.heap.size,rfl,F.size,dR x #[] 67⟩ ((Y _ _).alloc F.size _) fun j u _ _ _ _ _ h=>bI j u _ _ h ((Y _ _).alloc (au _) _))
  ·cases H;have a1:a.eval (aA 2)=ah (J ⟨q,0,O⟩):=seen.kp 2 _ (nd 2 (by omega)) rfl;exact Rg.dI rfl rfl (Rg.dY a.eval _ 30 (aA 2) 4 rfl (by rw [a1]; simp [go_sem])) (G _ _ rfl (Y _ _) fun _ _ _ _ _ _ _ h=>h)
  ·cases H;have j8:a.eval (aA 98)=ah (J ⟨q,4,O⟩):=seen.at_ ⟨1,.data⟩ (by simp) rfl (aX (by decide));have y:=(b4.o.on F).cell 4;simp only [aL,aN,aO] at y;exact Rg.dI rfl rfl (Rg.dW a.eval _ 27 (aA 98) rfl (by rw [j8]; simp [go_sem,y])) (G _ _ rfl (Y _ _) fun _ _ _ _ _ _ _ h=>h)
  ·cases H;have bB:a.eval (aA 7)=aJ aC (at_:Int):=seen.kp 7 _ (nd 7 (by omega)) rfl;exact Rg.dI rfl rfl (Rg.gF a.eval _ (aA 7) rfl x) (G _ _ bB (Y _ _) fun _ _ _ _ _ _ _ h=>h)
  ·cases H;have j9:a.eval (aA 99)=U S N sc:=seen.at_ ⟨2,.data⟩ (by simp) rfl (aX (by decide));have j0:a.eval (aA 100)=aJ aC (at_:Int):=seen.at_ ⟨3,.data⟩ (by simp) rfl (aX (by decide));exact Rg.dI rfl rfl (Rg.lW a.eval _ 27 (aA 99) O (J (aA 100)) O rfl (by show (ak 27 (a.eval (aA 99)) O (J (a.eval (aA 100))) O).run X x=.ok lo x; rw [j9,j0]; exact i9.o x)) (G _ _ rfl (Y _ _) fun _ _ _ _ _ _ _ h=>h)
  ·cases H;obtain⟨g,bP,jV,a6⟩:=seen.at_ ⟨0,.data⟩ (by simp) rfl (Or.inl rfl);have bP:a.eval (aA 97)=U (J ⟨g,0,O⟩) 0 0:=bP;have j1:a.eval (aA 101)=lo:=seen.at_ ⟨4,.data⟩ (by simp) rfl (aX (by decide));obtain⟨b1,b2,r,aE,I⟩:=iI nE W.heap.size a6 jV (i7.o.on F) h8.o 27;exact Rg.dI rfl rfl (Rg.gV a.eval _ (aA 97) (aA 101) 27 rfl bP j1 r) (G b1 b2 aE (I.mono F.size) fun j u _ _ _ _ _ h=>bI j u _ _ h I)
  ·cases H;have j7:a.eval (aA 3)=ah (J ⟨b3,0,O⟩):=seen.kp 3 _ (nd 3 (by omega)) rfl;exact Rg.dI rfl rfl (Rg.dW a.eval _ 67 (aA 3) rfl (by rw [j7]; exact aeL x _ z (i5.o x F))) (G _ _ rfl (Y _ _) fun _ _ _ _ _ _ _ h=>h)
  ·cases H;have j2:a.eval (aA 103)=qd z:=seen.at_ ⟨6,.data⟩ (by simp) rfl (aX (by decide));have bC:=jL nE x [z] 1 rfl (by simp) (jE z).toArray (by simp [flat,EN]);have bC:jJ (x.alloc (aI (jE z).toArray 67)) x.heap.size (U (J ⟨x.heap.size,0,O⟩) 1 1) [z]:=bC;exact Rg.dI rfl rfl (Rg.iX a.eval _ 27 1 #[(0,aA 103)] rfl (ps:=#[(0,qd z)]) (by simp [j2]) (by simp [go_sem])) (G (U (J ⟨x.heap.size,0,O⟩) 1 1) (x.alloc (aI (jE z).toArray 67)) (dO bC F.size) ((Y _ _).alloc F.size _) fun j u _ _ _ _ _ h=>bI j u _ _ h ((Y _ _).alloc (au _) _))
  ·cases H;have hG:jJ x W.heap.size (a.eval (aA 102)) (lt):=seen.at_ ⟨5,.data⟩ (by simp) rfl (Or.inl rfl);have k7:jJ x W.heap.size (a.eval (aA 104)) ([z]):=seen.at_ ⟨7,.data⟩ (by simp) rfl (Or.inl rfl);have bO:=Row.dL k7;obtain⟨b1,b2,r,aE,I⟩:=iC nE W.heap.size hG bO (by have:=h8.o; omega) (by simp) F.size 27;exact Rg.dI rfl rfl (Rg.gV a.eval _ (aA 102) (aA 104) 27 rfl rfl rfl r) (G b1 b2 aE ((Y _ x).grown I F.size fun j M=>(hG.lt j M).1) fun j u M h9 a8 b9 bM h=>by
    rcases (by omega:j=0\/j=1\/j=2\/j=3\/j=4\/j=5\/j=6\/j=7\/j=8\/j=9\/j=10\/j=11\/j=12\/j=13\/j=14) with rfl|rfl|rfl|rfl|rfl|rfl|rfl|rfl|rfl|rfl|rfl|rfl|rfl|rfl|rfl
    ·exact absurd rfl (fun _:(0:Nat)=0=>a8 (a7 5 _ (a2 ⟨5,.data⟩ (by simp) rfl) rfl ⟨0,.data⟩ (by simp) rfl |> fun _=>a2 ⟨5,.data⟩ (by simp) rfl))
    ·exact h
    ·exact h
    ·exact h
    ·exact h
    ·exact absurd rfl (fun _:(0:Nat)=0=>b9 rfl)
    ·exact h
    ·exact absurd rfl (fun _:(0:Nat)=0=>b9 rfl)
    ·exact absurd rfl (fun _:(0:Nat)=0=>bM rfl)
    ·exact h
    ·exact h
    ·exact h
    ·exact h
    ·exact absurd rfl (fun _:(0:Nat)=0=>k4 (a7 13 _ h9 rfl ⟨8,.data⟩ (by simp) rfl))
    ·exact h)
  ·cases H;have a1:a.eval (aA 2)=ah (J ⟨q,0,O⟩):=seen.kp 2 _ (nd 2 (by omega)) rfl;exact Rg.dI rfl rfl (Rg.dY a.eval _ 30 (aA 2) 4 rfl (by rw [a1]; simp [go_sem])) (G _ _ rfl (Y _ _) fun _ _ _ _ _ _ _ h=>h)
  ·cases H;have j3:a.eval (aA 106)=ah (J ⟨q,4,O⟩):=seen.at_ ⟨9,.data⟩ (by simp) rfl (aX (by decide));have y:=(b4.o.on F).cell 4;simp only [aL,aN,aO] at y;exact Rg.dI rfl rfl (Rg.dW a.eval _ 27 (aA 106) rfl (by rw [j3]; simp [go_sem,y])) (G _ _ rfl (Y _ _) fun _ _ _ _ _ _ _ h=>h)
  ·cases H;have bB:a.eval (aA 7)=aJ aC (at_:Int):=seen.kp 7 _ (nd 7 (by omega)) rfl;exact Rg.dI rfl rfl (Rg.gF a.eval _ (aA 7) rfl x) (G _ _ bB (Y _ _) fun _ _ _ _ _ _ _ h=>h)
  ·cases H;have j4:a.eval (aA 107)=U S N sc:=seen.at_ ⟨10,.data⟩ (by simp) rfl (aX (by decide));have j5:a.eval (aA 108)=aJ aC (at_:Int):=seen.at_ ⟨11,.data⟩ (by simp) rfl (aX (by decide));exact Rg.dI rfl rfl (Rg.lW a.eval _ 27 (aA 107) (J (aA 108)) O O rfl (by show (ak 27 (a.eval (aA 107)) (J (a.eval (aA 108))) O O).run X x=.ok b6 x; rw [j4,j5]; exact i8.o x)) (G _ _ rfl (Y _ _) fun _ _ _ _ _ _ _ h=>h)
  ·cases H;have hH:jJ x W.heap.size (a.eval (aA 105)) ((lt++[z])):=seen.at_ ⟨8,.data⟩ (by simp) rfl (Or.inl rfl);have j6:a.eval (aA 109)=b6:=seen.at_ ⟨12,.data⟩ (by simp) rfl (aX (by decide));have bO:mF x (a.eval (aA 109)) b8:=by rw [j6]; exact i6.o.on F
   obtain⟨b1,b2,r,aE,I⟩:=iC nE W.heap.size hH bO (by have:=iG.o; rw [List.length_append,List.length_singleton]; omega) i4.o F.size 27;exact Rg.dI rfl rfl (Rg.gV a.eval _ (aA 105) (aA 109) 27 rfl rfl rfl r) (G b1 b2 aE ((Y _ x).grown I F.size fun j M=>(hH.lt j M).1) fun j u M h9 a8 b9 bM h=>by
    rcases (by omega:j=0\/j=1\/j=2\/j=3\/j=4\/j=5\/j=6\/j=7\/j=8\/j=9\/j=10\/j=11\/j=12\/j=13\/j=14) with rfl|rfl|rfl|rfl|rfl|rfl|rfl|rfl|rfl|rfl|rfl|rfl|rfl|rfl|rfl
    ·exact absurd rfl (fun _:(0:Nat)=0=>a8 (a7 8 _ (a2 ⟨8,.data⟩ (by simp) rfl) rfl ⟨5,.data⟩ (by simp) rfl))
    ·exact h
    ·exact h
    ·exact h
    ·exact h
    ·exact absurd rfl (fun _:(0:Nat)=0=>a8 (a2 ⟨8,.data⟩ (by simp) rfl))
    ·exact h
    ·exact absurd rfl (fun _:(0:Nat)=0=>a8 (a2 ⟨8,.data⟩ (by simp) rfl))
    ·exact absurd rfl (fun _:(0:Nat)=0=>b9 rfl)
    ·exact h
    ·exact h
    ·exact h
    ·exact h
    ·exact absurd rfl (fun _:(0:Nat)=0=>bM rfl)
    ·exact h)
  ·cases H;have a1:a.eval (aA 2)=ah (J ⟨q,0,O⟩):=seen.kp 2 _ (nd 2 (by omega)) rfl;exact Rg.dI rfl rfl (Rg.dY a.eval _ 30 (aA 2) 4 rfl (by rw [a1]; simp [go_sem])) (G _ _ rfl (Y _ _) fun _ _ _ _ _ _ _ h=>h)
 ·intro a w' df sz kp ⟨bA,b7⟩ F;have I:a.tmps[110]?=J (bA 13):=(b7 13 (by omega)).1;have jI:a.tmps[111]?=J (ah (J ⟨q,4,O⟩)):=by
   have h:bA 14=ah (J ⟨q,4,O⟩):=(b7 14 (by omega)).2 (by decide);rw [<- h];exact (b7 14 (by omega)).1
  have hI:jJ w' W.heap.size (bA 13) (lt++[z]++b8):=(b7 13 (by omega)).2 (by decide);generalize bA 13=h3 at *;obtain⟨k9,kA,jB⟩:=(Row.dL hI).len;have a6:=b4.o.on F;have hD:=b4.o.lt;have c5:=a6.cell 4;have jD:=a6.fr 4;simp only [aL,aN,aO] at c5;have jY:=eD (k:=4) a6 h3;show Rg.fU _ _ _ 1 15 a w';simp only [Rg.fU];refine Rg.gq 27 (aA 111) (aA 110) rfl rfl rfl rfl (Rg.dU jI) (Rg.dU I) (w':=w'.setCell ⟨q,4,O⟩ h3) (by rw [jB]; simp [go_sem,c5,jD]) ?_;have k8:∀ j,(j<97\/112<=j)->a.tmps[j]?=(bT::bW::ah (J ⟨q,0,O⟩)::ah (J ⟨b3,0,O⟩)::d5::e0::u6::aJ aC (at_:Int)::f6::u9::bX::u11::c9::u13::cA::cC::cD::cF::cG::cH::cI::cJ::cL::cM::cN::cP::cQ::cR::cS::cT::cU::cV::cW::cX::cY::d0::d1::d2::d3::d4::d6::d7::d8::d9::dA::dC::dE::dS::dT::dZ::e1::e2::e3::e4::e5::e6::e7::e8::e9::eA::eB::eC::eE::eI::eJ::eK::eL::eM::eN::eQ::eR::eS::eV::eW::f0::f1::f2::f3::f4::f5::f7::f8::f9::fL::fN::fR::fS::fV::fW::fX::fY::g0::g1::g2::g3::g4::g5::hV::hW::hX::hJ::hK::hL::hM::hN::hO::hP::hQ::hR::hS::hT::hU::c6::c7::c8::[])[j]?:=fun j M=>(kp j (nd j M)).trans aL;obtain⟨k6,k3,rfl⟩:=Rg.gG 97 15 df sz (by simp) k8
  match k6,k3 with
  | [h0,h1,h2,g6,g7,g8,g9,gA,gC,gE,gI,gO,gR,T,gS],_ =>
   have iS:J T=J h3:=I;obtain rfl:=aH iS;refine h5.o _ h0 h1 h2 g6 g7 g8 g9 gA gC gE gI gO gR T gS ?_ ?_ ?_ ?_ ?_
   ·simpa using jY
   ·exact eF hI q 4 _ hD
   ·exact fun B hB=>(F.mono (Nat.le_of_lt (Nat.lt_of_le_of_lt hB hD))).setCell hB _
   ·intro c cs t a7 k0;exact (aU _ _ _ _ a7).trans (k0.on F)
   ·intro k k1 k5;exact (aU _ _ _ _ k5).trans (F.block k k1)
end Go.Proofs.YtghlpefopidlaaaGreat.Bk
namespace Go.Proofs.YtghlpefopidlaaaGreat.Rl
open Go.RowKit Pu Pr
theorem Vr {a b:List Cn} (q:kX a) (j:a.length<=5):Ep (a++b)=lG a.length a b:=by
 have e:=UU a q j;rw [Ep] at e;rw [Ep,BP a b [] a 0 e,Nat.zero_add]
def kV:List Cn->List Cn->Option (List Cn)
 | m,[]=>J m
 | m,c::j=>match qW m c with
  | none=>O
  | some n=>kV n j
theorem Jf:∀ (r m p:List Cn),kX m->kV m r=J p->m.length<=p.length/\kX p
 | [],m,p,q,h=>by
  obtain rfl:=aH h;exact⟨au _,q⟩
 | c::r,m,p,q,h=>by
  simp only [kV] at h;cases j:qW m c with
  | none=>rw [j] at h; cases h
  | some n =>
   rw [j] at h;have F:=Er m c n q j;obtain⟨G,u⟩:=Jf r n p (kY m c n q j).1 h;exact⟨by omega,u⟩
theorem Ee:∀ (j m p:List Cn) (at_:Nat),kX m->m.length<=5->(lG at_ m j=.ok p↔kV m j=J p/\p.length<=5)
 | [],m,p,at_,_,q=>by
  simp only [lG,kV];constructor
  ·intro h;injection h with h
   subst h;exact⟨rfl,q⟩
  ·rintro⟨h,_⟩;rw [aH h]
 | c::j,m,p,at_,G,q=>by
  simp only [lG,kV];cases F:qW m c with
  | none =>
   constructor
   ·intro h; cases h
   ·rintro⟨h,_⟩; cases h
  | some n =>
   simp only;have u:=(kY m c n G F).1;by_cases r:5<n.length
   ·rw [if_pos r];constructor
    ·intro h; cases h
    ·rintro⟨h,H⟩;have:=(Jf j n p u h).1;omega
   ·rw [if_neg r];exact Ee j n p (at_+1) u (by omega)
theorem zC:∀ (a b m m':List Cn),kV m a=J m'->kV m (a++b)=kV m' b
 | [],b,m,m',h=>by
  obtain rfl:=aH h
  rfl
 | c::q,b,m,m',h=>by
  simp only [List.cons_append,kV] at h ⊢;cases j:qW m c with
  | none=>rw [j] at h; cases h
  | some n =>
   rw [j] at h;exact zC q b n m' h
theorem Jg:∀ (p m:List Cn),kX (m++p)->kV m p=J (m++p)
 | [],m,_=>by simp [kV]
 | c::r,m,h=>by
  have j:∀ x∈m,bH x.1.toList c.1.toList=aG:=fun x q=>(bS.1 h).2.2 x q c (List.mem_cons_self ..);simp only [kV];rw [Ky m c j];simp only;rw [Jg r (m++[c]) (by simpa using h)];simp
theorem YH {a b:List Cn} (j:kX a):kV [] (a++b)=kV a b:=zC a b [] a (by simpa using Jg a [] (by simpa using j))
theorem YI {a b:List Cn} (F:kX a) (u:a.length<=5):vK a b=match kV a b with
  | some p=>decide (p.length<=5)
  | none=>aV:=by
 unfold vK;cases h:kV a b with
 | none =>
  cases q:lG a.length a b with
  | ok p =>
   have:=(Ee b a p a.length F u).1 q;rw [h] at this;cases this.1
  | error e=>rfl
 | some p =>
  by_cases j:p.length<=5
  ·rw [(Ee b a p a.length F u).2 ⟨h,j⟩];simp [j]
  ·cases q:lG a.length a b with
   | ok G =>
    have r:=(Ee b a G a.length F u).1 q;rw [h] at r;obtain rfl:=aH r.1;exact absurd r.2 j
   | error e=>simp [j]
end Go.Proofs.YtghlpefopidlaaaGreat.Rl
namespace Go.Proofs.YtghlpefopidlaaaGreat.Rl
open Go.RowKit Pu Rw Pr
def EA:Ek An:=⟨175,41,4,48,.agg #[bD ⟨#[]⟩,.bool aV,aJ aC 0,bD ⟨#[]⟩],At.av,At.aij⟩
structure NL (l:List An):Prop where
 rise:l.Pairwise fun x y=>bH x.1.toList y.1.toList=aG
 five:l.length<=5
 small:∀ x∈l,x.1.size<=100/\x.2.2.2.size<=100
def ofC (p:List Cn) (n:ByteArray):Option Cn:=p.find? fun c=>decide (c.1=n)
theorem YX {p:List Cn} {n:ByteArray} {y:Cn} (h:ofC p n=J y):y∈p/\y.1=n:=⟨List.mem_of_find?_eq_some h,by simpa using List.find?_some h⟩
theorem akw {p:List Cn} {n:ByteArray} {k:Nat} {y:Cn} (u:p[k]?=J y) (q:y.1=n) (G:∀ (j:Nat) (z:Cn),j<k->p[j]?=J z->z.1≠n):ofC p n=J y:=by
 unfold ofC;rw [List.find?_eq_some_iff_getElem];obtain⟨F,H⟩:=aM.1 u;refine⟨by simpa using q,k,F,H,fun j r=>?_⟩;have:=G j p[j] r (Z (by omega));simpa using this
theorem adu {p:List Cn} {n:ByteArray} (r:∀ (j:Nat) (z:Cn),j<p.length->p[j]?=J z->z.1≠n):ofC p n=O:=by
 unfold ofC;rw [bZ];intro x u;obtain⟨j,q,e⟩:=List.getElem_of_mem u;have:=r j x q (by rw [Z q,e]);simpa using this
def QH (b:List Cn) (x:Cn):Bool:=match ofC b x.1 with
 | some y=>fD y.2 x.2
 | none=>aV
theorem Vy {a b:List Cn} (F:kX b):rW a b=a.all (QH b):=by
 unfold rW
 congr 1
 funext x
 unfold QH;cases u:ofC b x.1 with
 | none =>
  rw [List.any_eq_false];intro y G;have:=bZ.1 u y G;simp only [decide_eq_true_eq] at this;simp [this]
 | some y =>
  obtain⟨q,r⟩:=YX u;rw [bK,List.any_eq_true];constructor
  ·rintro⟨z,H,j⟩;simp only [ay,decide_eq_true_eq] at j;rw [aki F q H (r.trans j.1.symm)];exact j.2
  ·intro j;exact⟨y,q,by simp [r,j]⟩
theorem QI {n:ByteArray} {c d k:Kd} (F:jM c=aG) (j:jM d=aG) (h:fI c d=J k):DN (r5 (n,k)) (r5 (n,d))=fD d c:=by
 obtain⟨H,r⟩:=UQ c d k F j h;rw [bK,M8];constructor
 ·intro e;have u:=aiH e;obtain rfl:k=d:=congrArg Prod.snd u;exact Ih k c j fun v q=>by rw [r,ay] at q; exact q.1
 ·intro G;have:k=d:=Qn k d H j fun v=>by
   rw [r,bK,ay];exact⟨fun h=>h.2,fun h=>⟨xX d c G v h,h⟩⟩
  rw [this]
theorem QJ {c d:Kd} (q:jM d=aG) (h:fI c d=O):fD d c=aV:=by
 rw [Bool.eq_false_iff];intro r;obtain⟨v,j⟩:=Qm d q;have:=UR c d h v;rw [j,xX d c r v j] at this;cases this
/-! ### samples -/
/-! ### both together -/
end Go.Proofs.YtghlpefopidlaaaGreat.Rl
namespace Go.Proofs.YtghlpefopidlaaaGreat.At
open Go.RowKit Va
abbrev V3:=Bool×Int×ByteArray
/-! ### the publications that numbers make -/
end Go.Proofs.YtghlpefopidlaaaGreat.At
namespace Go.Proofs.YtghlpefopidlaaaGreat.At
open Go.RowKit Go.Sort Va In
end Go.Proofs.YtghlpefopidlaaaGreat.At
namespace Go.Proofs
open Go.Shelf
def Tryz.sortI_ren:Go.Shelf.Ren:=⟨fun | 189=>40 | 125=>109 | 257=>108 | 128=>153 | 129=>154 | 294=>144 | 295=>145 | 296=>146 | 297=>147 | 298=>148 | 299=>149 | 216=>150 | 300=>151 | 301=>152 | 328=>175 | 329=>176 | 330=>177 | 331=>178 | 332=>179 | 215=>128 | 343=>194 | n=>n,fun | 28=>24 | 3=>3 | 46=>155 | 0=>0 | 51=>199 | 53=>201 | 4=>4 | 183=>192 | 182=>191 | 131=>84 | 5=>5 | 9=>9 | 218=>215 | 222=>219 | 228=>234 | 229=>235 | n=>n,fun | n=>n⟩
theorem Tryz.sortI:Go.Proofs.Lays.n189 X Tryz.sortI_ren:={
 mixed:=by kernel_rfl
 f125:=Tryz.func109.trans (congrArg J (by kernel_rfl))
 f128:=Tryz.func153.trans (congrArg J (by kernel_rfl))
 f129:=Tryz.func154.trans (congrArg J (by kernel_rfl))
 f189:=Tryz.func40.trans (congrArg J (by kernel_rfl))
 f215:=Tryz.func128.trans (congrArg J (by kernel_rfl))
 f216:=Tryz.func150.trans (congrArg J (by kernel_rfl))
 f257:=Tryz.func108.trans (congrArg J (by kernel_rfl))
 f294:=Tryz.func144.trans (congrArg J (by kernel_rfl))
 f295:=Tryz.func145.trans (congrArg J (by kernel_rfl))
 f296:=Tryz.func146.trans (congrArg J (by kernel_rfl))
 f297:=Tryz.func147.trans (congrArg J (by kernel_rfl))
 f298:=Tryz.func148.trans (congrArg J (by kernel_rfl))
 f299:=Tryz.func149.trans (congrArg J (by kernel_rfl))
 f300:=Tryz.func151.trans (congrArg J (by kernel_rfl))
 f301:=Tryz.func152.trans (congrArg J (by kernel_rfl))
 f328:=Tryz.func175.trans (congrArg J (by kernel_rfl))
 f329:=Tryz.func176.trans (congrArg J (by kernel_rfl))
 f330:=Tryz.func177.trans (congrArg J (by kernel_rfl))
 f331:=Tryz.func178.trans (congrArg J (by kernel_rfl))
 f332:=Tryz.func179.trans (congrArg J (by kernel_rfl))
 f343:=Tryz.func194.trans (congrArg J (by kernel_rfl))
 t0:=aZ
 a0:=dH
 z0:=cO
 v0:=bL
 t3:=aQ
 a3:=Tryz.isAgg3
 z3:=cZ
 v3:=bN
 t4:=bf
 a4:=Tryz.isAgg4
 z4:=dh
 v4:=bQ
 t5:=Tryz.underlying5
 a5:=Tryz.isAgg5
 z5:=Tryz.sizeOf5
 v5:=Tryz.zeroValue5
 t9:=Tryz.underlying9
 a9:=Tryz.isAgg9
 z9:=Tryz.sizeOf9
 v9:=Tryz.zeroValue9
 t28:=aW
 a28:=dn
 z28:=bY
 v28:=bg
 t46:=cu
 a46:=Tryz.isAgg155
 z46:=Tryz.sizeOf155
 v46:=dw
 t51:=Tryz.underlying199
 a51:=Tryz.isAgg199
 z51:=Tryz.sizeOf199
 v51:=Tryz.zeroValue199
 t53:=Tryz.underlying201
 a53:=Tryz.isAgg201
 z53:=Tryz.sizeOf201
 v53:=Tryz.zeroValue201
 t131:=Tryz.underlying84
 a131:=Tryz.isAgg84
 z131:=Tryz.sizeOf84
 v131:=Tryz.zeroValue84
 t182:=Tryz.underlying191
 a182:=Tryz.isAgg191
 z182:=Tryz.sizeOf191
 v182:=Tryz.zeroValue191
 t183:=Tryz.underlying192
 a183:=Tryz.isAgg192
 z183:=Tryz.sizeOf192
 v183:=Tryz.zeroValue192
 t218:=Tryz.underlying215
 a218:=Tryz.isAgg215
 z218:=Tryz.sizeOf215
 v218:=Tryz.zeroValue215
 t222:=Tryz.underlying219
 a222:=Tryz.isAgg219
 z222:=Tryz.sizeOf219
 v222:=Tryz.zeroValue219
 t228:=Tryz.underlying234
 a228:=Tryz.isAgg234
 z228:=Tryz.sizeOf234
 v228:=Tryz.zeroValue234
 t229:=Tryz.underlying235
 a229:=Tryz.isAgg235
 z229:=Tryz.sizeOf235
 v229:=Tryz.zeroValue235 }
def Tryz.cptI_ren:Go.Shelf.Ren:=⟨fun | 20=>41 | n=>n,fun | 0=>0 | 3=>3 | 4=>4 | 22=>24 | n=>n,fun | n=>n⟩
theorem Tryz.cptI:Go.Proofs.Lays2.n20 X Tryz.cptI_ren:={
 mixed:=by kernel_rfl
 i3:=by kernel_rfl
 f20:=Tryz.func41.trans (congrArg J (by kernel_rfl))
 t0:=aZ
 a0:=dH
 z0:=cO
 v0:=bL
 t3:=aQ
 a3:=Tryz.isAgg3
 z3:=cZ
 v3:=bN
 t4:=bf
 a4:=Tryz.isAgg4
 z4:=dh
 v4:=bQ
 t22:=aW
 a22:=dn
 z22:=bY
 v22:=bg }
def Tryz.bsI_ren:Go.Shelf.Ren:=⟨fun | 25=>165 | 31=>150 | 32=>186 | 37=>128 | n=>n,fun | 0=>0 | 3=>3 | 4=>4 | 22=>24 | 40=>155 | n=>n,fun | n=>n⟩
theorem Tryz.bsI:Go.Proofs.Lays2.n25 X Tryz.bsI_ren:={
 mixed:=by kernel_rfl
 f25:=Tryz.func165.trans (congrArg J (by kernel_rfl))
 f31:=Tryz.func150.trans (congrArg J (by kernel_rfl))
 f32:=Tryz.func186.trans (congrArg J (by kernel_rfl))
 f37:=Tryz.func128.trans (congrArg J (by kernel_rfl))
 t0:=aZ
 a0:=dH
 z0:=cO
 v0:=bL
 t3:=aQ
 a3:=Tryz.isAgg3
 z3:=cZ
 v3:=bN
 t4:=bf
 a4:=Tryz.isAgg4
 z4:=dh
 v4:=bQ
 t22:=aW
 a22:=dn
 z22:=bY
 v22:=bg
 t40:=cu
 a40:=Tryz.isAgg155
 z40:=Tryz.sizeOf155
 v40:=dw }
end Go.Proofs
namespace Go.Proofs.YtghlpefopidlaaaGreat.Rg
open Go.RowKit
end Go.Proofs.YtghlpefopidlaaaGreat.Rg
namespace Go.Proofs.YtghlpefopidlaaaGreat.Rg
open Go.RowKit Rw
structure aeR (i N A S:Nat) (d last:Nat->Nat) (V:Nat->aF->aD->Prop) (base:Act) (o:Oper) (a:Act) (x:aD):Prop where
 kp:∀ j u,(∀ i,i<N->d i≠j)->base.tmps[j]?=J u->a.eval (aA j)=u
 at_:∀ e∈o.after,aK .any e=aG->e.on≠A->e.on≠S->(last e.on=i\/N<=last e.on)->V e.on (a.eval (aA (d e.on))) x
structure InX (l:List Oper) (N A S C:Nat) (d last:Nat->Nat) (V:Nat->aF->aD->Prop) (t:TypeId) (zero:Array aF) (XH:aF->Array aF) (base:Act) (W:aD) (L:Array Bool) (a:Act) (x:aD):Prop where
 cl:∀ i o,done L i->l[i]?=J o->∀ e∈o.after,aK .any e=aG->done L e.on
 no:∀ i,N<=i->¬ done L i
 df:a.defers=base.defers
 sz:a.tmps.size=base.tmps.size
 kp:∀ j,(∀ i,i<N->d i≠j)->a.tmps[j]?=base.tmps[j]?
 xY:aP W.heap.size W x
 val:∃ vs:Nat->aF,∀ i,i<N->i≠S->done L i->a.tmps[d i]?=J (vs i)/\(i≠A->¬ done L (last i)->V i (vs i) x)
 box:done L A->¬ done L S->∃ bb,a.tmps[d A]?=J (ah (J ⟨bb,0,O⟩))/\W.heap.size<=bb/\dN x bb zero t
 fin:done L S->∃ bb v,a.tmps[d A]?=J (ah (J ⟨bb,0,O⟩))/\a.tmps[d C]?=J v/\W.heap.size<=bb/\dN x bb (XH v) t/\V C v x
theorem xq {P:Program} {Q:Exit->Act->aD->Prop} {id:Nat} {base:Act} {W:aD} {l:List Oper} (N A S C:Nat) (d a1:Nat->Nat) (V:Nat->aF->aD->Prop) (t:TypeId) (zero:Array aF) (bO:aF->Array aF)
  (e3:P.follows .mixedOrders=aG) (cW:Qq l.toArray=aG) (eQ:l.length=N) (cR:A<N) (eR:S<N) (bW:C<N) (cT:A≠S) (cD:C≠S) (cS:A≠C) (cY:N<=a1 C)
  (e1:∀ i j,i<N->j<N->i≠S->j≠S->d i=d j->i=j) (eC:∀ i,i<N->d i<base.tmps.size)
  (cU:∀ i v x F,i<N->V i v x->aP x.heap.size x F->V i v F)
  (d2:∀ o,l[S]?=J o->(∃ e∈o.after,aK .any e=aG/\e.on=A)/\∃ e∈o.after,aK .any e=aG/\e.on=C)
  (e9:∀ i o,i<N->i≠A->i≠S->l[i]?=J o->∀ a x,aP W.heap.size W x->aeR i N A S d a1 V base o a x->∀ K:Act->aD->Prop,(∀ v F,V i v F->aP x.heap.size x F->K (a.put (J (d i)) v) F)->wpOp P l.toArray Q i K a x)
  (e6:∀ o,l[A]?=J o->∀ a x,∀ K:Act->aD->Prop,K (a.put (J (d A)) (ah (J ⟨x.heap.size,0,O⟩))) (x.alloc (aI zero t))->wpOp P l.toArray Q A K a x)
  (e7:∀ o,l[S]?=J o->∀ a x r v (D:Nat->Prop),(∀ j d5,D j->l[j]?=J d5->∀ e∈d5.after,aK .any e=aG->D e.on)->(∀ e∈o.after,aK .any e=aG->D e.on)->aP W.heap.size W x->a.eval (aA (d A))=ah (J ⟨r,0,O⟩)->a.eval (aA (d C))=v->V C v x->W.heap.size<=r->dN x r zero t->∀ K:Act->aD->Prop,(∀ F,aP W.heap.size W F->dN F r (bO v) t->(∀ j u,j<N->j≠A->j≠S->D j->¬ D (a1 j)->a1 j≠S->V j u x->V j u F)->K a F)->wpOp P l.toArray Q S K a x)
  (e0:∀ a x r v,a.defers=base.defers->a.tmps.size=base.tmps.size->(∀ j,(∀ i,i<N->d i≠j)->a.tmps[j]?=base.tmps[j]?)->a.tmps[d A]?=J (ah (J ⟨r,0,O⟩))->a.tmps[d C]?=J v->W.heap.size<=r->dN x r (bO v) t->V C v x->aP W.heap.size W x->(∃ b1:Nat->aF,∀ i,i<N->i≠S->i≠A->a.tmps[d i]?=J (b1 i)/\(N<=a1 i->V i (b1 i) x))->Q .normal a x):(Code.region id l.toArray aG).wp P Q base W:=by
 refine qX (fun L a x=>InX l N A S C d a1 V t zero bO base W L a x) e3 cW ?_ ?_ ?_
 ·exact⟨fun i o h=>absurd h (gQ _ _),fun i _=>gQ _ _,rfl,rfl,fun _ _=>rfl,(Y _ _).drew,⟨fun _=>.bool aG,fun i _ _ h=>absurd h (gQ _ _)⟩,fun h=>absurd h (gQ _ _),fun h=>absurd h (gQ _ _)⟩
 ·intro L a x i o eS I b2 c8 bI;have cF:i<l.length:=(aM.1 b2).1;have c6:i<N:=by omega
  have bM:i<L.size:=by omega
  obtain⟨b1,b8⟩:=I.val;have e8:∀ e∈o.after,aK .any e=aG->e.on<i:=fun e b5 H=>by
   have bP:=List.all_eq_true.1 cW i (List.mem_range.2 (by simpa using cF));have e5:(l.toArray)[i]?=J o:=by simpa using b2
   rw [e5] at bP;have bT:=Array.all_eq_true'.1 bP e b5;rw [H] at bT;simpa using bT
  have b4:∀ {k},k≠i->done (L.setIfInBounds i aG) k->done L k:=fun {k} h G=>((iJ bM k).1 G).resolve_left h;have bA:∀ {k},done L k->done (L.setIfInBounds i aG) k:=fun {k} h=>(iJ bM k).2 (aX h);have cP:∀ k q,done (L.setIfInBounds i aG) k->l[k]?=J q->∀ e∈q.after,aK .any e=aG->done (L.setIfInBounds i aG) e.on:=fun k q M d1 e b5 H=>by
   by_cases cQ:k=i
   ·subst cQ;rw [d1] at b2;cases b2;exact bA (bI e b5 H)
   ·exact bA (I.cl k q (b4 cQ M) d1 e b5 H)
  have d4:∀ k,N<=k->¬ done (L.setIfInBounds i aG) k:=fun k M h=>I.no k M (b4 (by omega) h);have seen:aeR i N A S d a1 V base o a x:=⟨fun j u c7 hu=>dU (by rw [I.kp j c7]; exact hu),fun e b5 H dT dZ b6=>by
   obtain⟨a7,T⟩:=b8 e.on (by have:=e8 e b5 H; omega) dZ (bI e b5 H);rw [dU a7];refine T dT ?_;rcases b6 with b6|b6
   ·rw [b6]; exact c8
   ·exact I.no _ b6⟩
  have cL:i≠S->∀ v F,aP x.heap.size x F->(i≠A->V i v F)->(i=A->∃ r,v=ah (J ⟨r,0,O⟩)/\W.heap.size<=r/\dN F r zero t)->InX l N A S C d a1 V t zero bO base W (L.setIfInBounds i aG) (a.put (J (d i)) v) F:=by
   intro a2 v F H eB eA;have d7:(a.put (J (d i)) v).tmps[d i]?=J v:=by
    have G:d i<a.tmps.size:=by rw [I.sz]; exact eC i c6
    simp [Act.put,G]
   have keep:∀ k,k<N->k≠S->k≠i->(a.put (J (d i)) v).tmps[d k]?=a.tmps[d k]?:=fun k M a6 e2=>get_put _ _ _ _ (fun e=>e2 (e1 _ _ M c6 a6 a2 e));refine⟨cP,d4,I.df,by rw [size_put]; exact I.sz,fun j c7=>?_,I.xY.trans (H.mono I.xY.size),⟨fun k=>if k=i then v else b1 k,fun k M a6 bX=>?_⟩,fun a7 T=>?_,fun a7=>?_⟩
   ·rw [get_put _ _ _ _ (fun e=>c7 i c6 e.symm)];exact I.kp j c7
   ·by_cases e:k=i
    ·subst e;simp only [if_true];exact⟨d7,fun a8 _=>eB a8⟩
    ·simp only [if_neg e];obtain⟨a8,aE⟩:=b8 k M a6 (b4 e bX);exact⟨by rw [keep k M a6 e]; exact a8,fun G bB=>cU k _ _ _ M (aE G (fun h=>bB (bA h))) H⟩
   ·by_cases e:A=i
    ·subst e;obtain⟨r,rfl,aE,G⟩:=eA rfl;exact⟨r,d7,aE,G⟩
    ·obtain⟨r,a8,aE,G⟩:=I.box (b4 e a7) (fun h=>T (bA h));exact⟨r,by rw [keep A cR cT e]; exact a8,aE,G.on H⟩
   ·have T:=b4 (Ne.symm a2) a7;obtain⟨r,u,G,bB,bP,bT,dS⟩:=I.fin T;obtain⟨bE,c9⟩:∃ bE,l[S]?=J bE:=⟨_,Z (by omega)⟩;obtain⟨⟨cA,cG,cH,eE⟩,cC,eI,eJ,eK⟩:=d2 bE c9;have b9:=I.cl S bE T c9 cA cG cH;have b7:=I.cl S bE T c9 cC eI eJ;rw [eE] at b9;rw [eK] at b7;have dC:A≠i:=fun e=>c8 (e ▸ b9);have dE:C≠i:=fun e=>c8 (e ▸ b7);exact⟨r,u,by rw [keep A cR cT dC]; exact G,by rw [keep C bW cD dE]; exact bB,bP,bT.on H,cU C _ _ _ bW dS H⟩
  by_cases a2:i=S
  ·subst a2;obtain⟨⟨cA,a7,T,a8⟩,cC,aE,G,bB⟩:=d2 o b2;have b9:=bI cA a7 T;have b7:=bI cC aE G;rw [a8] at b9;rw [bB] at b7;obtain⟨d8,eM⟩:=b8 C bW cD b7;obtain⟨r,cM,cN,b3⟩:=I.box b9 c8;have d9:=eM (Ne.symm cS) (I.no _ cY);refine e7 o b2 a x r (b1 C) (done L) I.cl bI I.xY (dU cM) (dU d8) d9 cN b3 _ (fun F cI cJ d6=>⟨cP,d4,I.df,I.sz,I.kp,cI,⟨b1,fun k M a6 bX=>?_⟩,fun _ e4=>absurd ((iJ bM _).2 (Or.inl rfl)) e4,fun _=>⟨r,b1 C,cM,d8,cN,cJ,?_⟩⟩)
   ·obtain⟨w1,eN⟩:=b8 k M a6 (b4 a6 bX);refine⟨w1,fun cX d0=>?_⟩;have eL:a1 k≠i:=fun e=>d0 ((iJ bM _).2 (Or.inl e));have d3:¬ done L (a1 k):=fun e=>d0 (bA e);exact d6 k _ M cX a6 (b4 a6 bX) d3 eL (eN cX d3)
   ·exact d6 C _ bW (Ne.symm cS) cD b7 (I.no _ cY) (by omega) d9
  ·by_cases bC:i=A
   ·subst bC;refine e6 o b2 a x _ (cL a2 _ _ ((Y _ _).alloc (au _) _) (fun h=>absurd rfl h) (fun _=>⟨x.heap.size,rfl,I.xY.size,dR x zero t⟩))
   ·refine e9 i o c6 bC a2 b2 a x I.xY seen _ (fun v F cI cJ=>cL a2 v F cJ (fun _=>cI) (fun e=>absurd e bC))
 ·intro L a x I cV;have dA:=cV S (by omega);obtain⟨r,v,a7,T,a8,aE,G⟩:=I.fin dA;obtain⟨b1,b8⟩:=I.val;exact e0 a x r v I.df I.sz I.kp a7 T a8 aE G I.xY ⟨b1,fun i cF a2 bC=>by
   obtain⟨cG,cH⟩:=b8 i cF a2 (cV i (by omega));exact⟨cG,fun b6=>cH bC (I.no _ b6)⟩⟩
end Go.Proofs.YtghlpefopidlaaaGreat.Rg
namespace Go.Proofs.YtghlpefopidlaaaGreat.Ar
open Go.ChangeShapes Go.WideShapes Go.RowKit
def readable (P:Program) (ts:List TypeId):Bool:=ts.all fun t=>P.readableRec t && decide (t<P.types.size)
theorem carry {H:Type} {enc:TypeId×aF->H} {P:Program} (M:laidOutB P=aG) {W G:aD} (I:aP W.heap.size W G) :
  ∀ (ts:List TypeId) (u:List aF) (j:List (DataW H)) (ps:List MemPlace),readable P ts=aG->DataW.TrodAll enc P W 0 (fun _=>aG) aG ts u j ps->(∀ x∈ps,x.block<W.heap.size) ->
   DataW.TrodAll enc P G 0 (fun b=>decide (b<W.heap.size)) aG ts u j ps
 | [],u,j,ps,_,h,_=>by
  obtain⟨rfl,rfl,rfl⟩:=trodAll_nil h;exact trodAll_mk0
 | t::ts,u,j,ps,r,h,N=>by
  obtain⟨v,a2,d,S,p,q,rfl,rfl,rfl,T,a1⟩:=trodAll_cons h;simp only [readable,List.all_cons,ay,decide_eq_true_eq] at r;exact trodAll_cons_mk (Below.trod M r.1.1 r.1.2 T I (fun x F=>N x (List.mem_append_left _ F)))
   (carry M I ts a2 S q r.2 a1 (fun x F=>N x (List.mem_append_right _ F)))
end Go.Proofs.YtghlpefopidlaaaGreat.Ar
namespace Go.Proofs.YtghlpefopidlaaaGreat.Pr
open Go.RowKit Go.ChangeShapes Go.WideShapes In
theorem YJ:Tryz.prog.cellsOf 52=2:=by kernel_rfl
theorem SY:Tryz.prog.cellsOf 24=1:=by kernel_rfl
theorem Vs {H:Type} {enc:TypeId×aF->H} {W:aD} {r:Reach} {b0:Nat} {G:Nat->Bool} {F:Bool} {v:aF} {d:DataW H} {ps:List MemPlace}
  (b1:Value.okWide X W r b0 52 v) (a8:DataW.Trod enc X W 0 G F 52 v d ps) :
  ∃ (N T:aF) (has j:List Int),v=.agg #[N,T]/\has.length<=dB/\j.length<=dB/\lY W N has/\lY W T j:=by
 obtain⟨cs,rfl,M⟩:=okWide_struct dx b1;obtain⟨b5,aE⟩:=a8;obtain⟨I,n,_,_,_,b2,S⟩:=DataW.trod_struct dx aE;rw [YJ] at M;obtain⟨l⟩:=cs
 match l,M with
 | [c0,c1],_ =>
  have q:DataW.trod enc X W 0 G F n 24 (([c0,c1].drop 0).take (Tryz.prog.cellsOf 24))=I[0]?:=S 0 _ rfl;have u:DataW.trod enc X W 0 G F n 24 (([c0,c1].drop 1).take (Tryz.prog.cellsOf 24))=I[1]?:=S 1 _ rfl;have b4:I.length=2:=b2;simp only [SY,List.drop_zero,List.drop_succ_cons,List.take_succ_cons,List.take_zero] at q u;rw [Z (by omega)] at q u;obtain⟨has,a1,a2⟩:=D8 q;obtain⟨j,a6,a7⟩:=D8 u;exact⟨c0,c1,has,j,rfl,a1,a6,a2,a7⟩
end Go.Proofs.YtghlpefopidlaaaGreat.Pr
