/-
  slices.Insert of one. Conditions as told.
-/
import Derived.Test.YtghlpefopidlaaaGreatLQ030
set_option maxRecDepth 100000
set_option maxHeartbeats 64000000
open _root_.Go renaming World->aF,Value->aI,Addr->aY,Calls->bF
open Go.Builtin renaming copy_->aK,append_->aX
open Go.Instr renaming sliceAt->au,storeAt->aZ
open Go.IntKind renaming i64->U,wrap_i64->aT
open Go.Lib renaming hid->ak
open Go.Obj renaming cells->aG
open Go.Operand renaming tmp->aA
open Go.Proofs.Tryz renaming prog->Z,ntmps43->aS,func43->aW
open Go.Proofs.YtghlpefopidlaaaGreat.Wi renaming within->aD
open Go.RowKit.Below renaming refl->ah
open Go.Value renaming slice->L,int->O,pointer->X,agg->aH,bool->bG
open _root_.List renaming getElem?_toArray->aj,getElem?_cons_zero->ay,getElem?_cons_succ->aB,getElem?_map->aJ,map_cons->aL,singleton_append->aM,mem_cons_of_mem->aN,mem_of_getElem?->aO,takeWhile_cons->aP,mem_cons->aQ,pairwise_cons->aR,length_cons->aU,map_toArray->aV,map_nil->bg
open _root_.Option renaming none->V,some->Y
open Option.some renaming inj->J
open _root_.Or renaming inr->aC,inl->bf
namespace Go.Proofs.YtghlpefopidlaaaGreat
namespace Rt
open Go.RowKit Rw YtghlpefopidlaaaGreat.Nm Pr Bk
theorem YJ {W:aF} {b:Nat} {c:ny} (h:dK W b (lH c).toArray 88):EP W (L (Y ⟨b,0,V⟩) 1 1) [c] :=
 aC ⟨⟨b,0,V⟩,1,rfl,by simp,by decide,tu h (by simp [EW])⟩
def Dm (B:Nat) (l:List ny) (k:Nat) (c:ny) (vv:aI) (W:aF) (e:Ending) (w':aF):Prop:=∃ v',e=.returned v'/\nM w' B v' (l.take k++c::l.drop k)/\Below B W w'/\(∀ j,j<W.heap.size->Y j≠vv.ownBlock->w'.heap[j]?=W.heap[j]?)
theorem Lj (B:Nat) (v:aI) (l:List ny) (c:ny) (b:Nat) (W:aF) (ho:nM W B v l) (hx:dK W b (lH c).toArray 88) (hl:l.length<=900) (hB:B<=W.heap.size) :
  bF Z 43 #[v,O U (l.length:Nat),L (Y ⟨b,0,V⟩) 1 1] W (Dm B l l.length c v W):=by
 obtain⟨v',w',hr,ho2,hg⟩:=gZ okW B ho (YJ hx) (by omega) (by simp) hB 28;have hr:(aX #[28,28] 28 #[v,L (Y ⟨b,0,V⟩) 1 1]).run Z W=.ok v' w':=hr;have Q:=ak (show Dm B l l.length c v W (.returned v') w' from ⟨v',rfl,by rw [List.take_of_length_le (Nat.le_refl _),List.drop_of_length_le (Nat.le_refl _)]; exact ho2,(ah B W).grown hg hB (fun j hj=>(ho.lt j hj).1),fun j hj hne=>hg.block j hj hne⟩);obtain⟨sx,hs,_⟩:=qB okW (Row.dJ ho) l.length (Nat.le_refl _);have hs:∀ w,(au 28 v (Y (O U l.length)) V V).run Z w=.ok sx w:=hs;obtain⟨ao,ac,rfl⟩:=(Row.dJ ho).len;clear ho ho2 hg;generalize hn:l.length=n at *;clear hn;go_enter aW,aS;go_wp2_with (first | (at_builtin; refine wpList_append_run rfl _ _ 28 rfl rfl rfl hr ?_) | fail);go_ret;exact Q.out
theorem YK (w:aF) (g b k la lb cb:Nat) (cur cs:Array aI) (hb:dK w b cs 88) (hg:dK w g cur 88) (hne:b≠g) (h0:0<cur.size):(callFunc 112 #[L (Y ⟨b,0,V⟩) la 1,L (Y ⟨g,k,V⟩) lb cb]).run Z w=.ok (.value (bG false)) w:=by
 rw [run_callFunc_extern Tryz.func112 (by kernel_rfl) (by kernel_rfl) (by kernel_rfl) (e:=Extern.SlicesOverlaps.overlaps #[28,28] #[4]) (by kernel_rfl),
  Lib.run_overlaps_apart w 28 4 88 Tryz.underlying28 3 Tryz.sizeOf88 ⟨b,0,V⟩ ⟨g,k,V⟩ la 1 lb cb hne 88 88 cs.size cur.size hb.shape hg.shape (by omega) (hb.fr 0) (hb.fr _)]
 rfl
theorem Fj (B g n cap:Nat) (cur:Array aI) (l:List ny) (k:Nat) (c:ny) (b:Nat) (W:aF) (hn:n=l.length) (hBg:B<=g) (hg:dK W g cur 88) (hcm:cap<=maxLen) (hsz:cur.size=cap * 3) (ht:cur.toList.take (n * 3)=flat EW l) (hx:dK W b (lH c).toArray 88) (hne:b≠g) (hk:k<n) (hroom:n+1<=cap) (hl:n<=900) :
  bF Z 43 #[L (Y ⟨g,0,V⟩) n cap,O U k,L (Y ⟨b,0,V⟩) 1 1] W (Dm B l k c (L (Y ⟨g,0,V⟩) n cap) W):=by
 obtain⟨R1,R2,r1,r2,ow⟩:=rW (E:=EW) (l:=l) (k:=k) (cap:=cap) (cur:=cur) (cs:=(lH c).toArray) (c:=c) okW (by omega) (by omega) hsz (by rw [<- hn]; exact ht) g b hne;have hov:=fun lb cb=>YK W g b ((k+1) * 3) 1 lb cb cur (lH c).toArray hx hg hne (by omega);have s0:=gY (E:=EW) okW g k n cap (by omega) (by omega);have s1:=jZ (E:=EW) okW ⟨g,0,V⟩ (n+1) n cap (by omega);have s2:=gY (E:=EW) okW g (k+1) (n+1) cap (by omega) (by omega);have s3:=gY (E:=EW) okW g k (n+1) cap (by omega) (by omega);have q1:=r1 W.drew 3 (n+1-(k+1)) (cap-(k+1)) (n+1-k) (cap-k) hg (by omega);have q2:=r2 (W.drew.setRow g R1) 3 (n+1-k) (cap-k) (dK.set (show dK W.drew g cur 88 from hg) R1) (dK.other (show dK W.drew b _ 88 from hx) hne R1) rfl (by omega);have Q:=ak (show Dm B l k c (L (Y ⟨g,0,V⟩) n cap) W (.returned (L (Y ⟨g,0,V⟩) (n+1) cap)) ((W.drew.setRow g R1).setRow g R2) from ⟨_,rfl,by rw [hn]; exact ow _ B hBg hcm (dK.set (dK.set (show dK W.drew g cur 88 from hg) R1) R2),below_setRow (below_setRow (ah B W).drew hBg _) hBg _,fun j hj hne=>(setRow_other _ g j _ (fun e=>hne (by rw [e]; rfl))).trans (setRow_other _ g j _ (fun e=>hne (by rw [e]; rfl)))⟩);clear r1 r2 ow hg ht hx hsz hBg hcm;change ∀ w,(au 28 (L (Y ⟨g,0,V⟩) n cap) (Y (O U k)) V V).run Z w=.ok (L (Y ⟨g,k * 3,V⟩) (n-k) (cap-k)) w at s0;change ∀ w,(au 28 (L (Y ⟨g,0,V⟩) n cap) V (Y (O U ((n:Int)+1))) V).run Z w=.ok (L (Y ⟨g,0,V⟩) (n+1) cap) w at s1;change ∀ w,(au 28 (L (Y ⟨g,0,V⟩) (n+1) cap) (Y (O U ((k:Int)+1))) V V).run Z w=.ok (L (Y ⟨g,(k+1) * 3,V⟩) (n+1-(k+1)) (cap-(k+1))) w at s2;change ∀ w,(au 28 (L (Y ⟨g,0,V⟩) (n+1) cap) (Y (O U k)) V V).run Z w=.ok (L (Y ⟨g,k * 3,V⟩) (n+1-k) (cap-k)) w at s3;have e1:((k:Int) == (n:Int))=false:=by rw [beq_eq_false_iff_ne]; omega
 have e2:decide ((cap:Int)<(n:Int)+1)=false:=by simp; omega
 change (aK #[28,28] 3 #[L (Y ⟨g,(k+1) * 3,V⟩) (n+1-(k+1)) (cap-(k+1)),L (Y ⟨g,k * 3,V⟩) (n+1-k) (cap-k)]).run Z W.drew=.ok (O U ((l.length-k:Nat):Int)) (W.drew.setRow g R1) at q1;change (aK #[28,28] 3 #[L (Y ⟨g,k * 3,V⟩) (n+1-k) (cap-k),L (Y ⟨b,0,V⟩) 1 1]).run Z (W.drew.setRow g R1)=.ok (O U 1) ((W.drew.setRow g R1).setRow g R2) at q2;clear hn;go_enter aW,aS;go_wp2_with (first | (simp only [hov]) | fail);clear hov s0 s1 s2 s3;have hw1:IntKind.i64.wrap ((k:Int)+1)=(k:Int)+1:=by rw [aT]; omega
 have hb1:(0:Int)<=(k:Int)+1:=by omega
 have hb0:(k:Int)+1<=(n:Int)+1:=by omega
 have htn:((k:Int)+1).toNat=k+1:=by omega
 have hb2:¬ (cap=k+1):=by omega
 have hb3:(k:Int)<=(n:Int)+1:=by omega
 have hb4:¬ (cap=k):=by omega
 have h81:n+1-(k+1)=n-k:=by omega
 rw [h81] at q1;clear h81
 go_region_law (refine iP rfl (aA 73) (aA 76) 28 rfl (v:=L (Y ⟨g,(k+1) * 3,V⟩) (n-k) (cap-(k+1))) (xv:=L (Y ⟨g,k * 3,V⟩) (n+1-k) (cap-k)) (by simp [Act.eval,Act.put]) (by simp [Act.eval,Act.put]) q1 ?_)
 all_goals simp only [Exit.then]
 all_goals apply_assumption
 clear q1 hw1 hb1 hb0 htn hb2 hb3 hb4;have s3:=gY (E:=EW) okW g k (n+1) cap (by omega) (by omega);change ∀ w,(au 28 (L (Y ⟨g,0,V⟩) (n+1) cap) (Y (O U k)) V V).run Z w=.ok (L (Y ⟨g,k * 3,V⟩) (n+1-k) (cap-k)) w at s3;go_wp2_with (first | (at_builtin; refine wpList_copy_run rfl _ _ 28 rfl rfl rfl q2 ?_) | fail);go_ret;exact Q.out
theorem Jq (B g n cap:Nat) (cur:Array aI) (l:List ny) (k:Nat) (c:ny) (b:Nat) (W:aF) (hn:n=l.length) (hg:dK W g cur 88) (hcm:cap<=maxLen) (hnc:n<=cap) (ht:cur.toList.take (n * 3)=flat EW l) (hx:dK W b (lH c).toArray 88) (hk:k<n) (hroom:cap<n+1) (hl:n<=900) (hB:B<=W.heap.size) :
  bF Z 43 #[L (Y ⟨g,0,V⟩) n cap,O U k,L (Y ⟨b,0,V⟩) 1 1] W (Dm B l k c (L (Y ⟨g,0,V⟩) n cap) W):=by
 have hgw:=hg.lt;have hbw:=hx.lt;obtain⟨G,R1,R2,R3,hG1,hG2,r1,r2,r3,ow⟩:=uS (E:=EW) (l:=l) (k:=k) (cap:=cap) (cur:=cur) (cs:=(lH c).toArray) (c:=c) okW 3 Tryz.underlying3 (by omega) (by omega) (by omega) (by omega) (by rw [<- hn]; exact ht) W g b hg hbw;unfold maxLen at hcm hG2;have s0:=gY (E:=EW) okW g k n cap (by omega) (by omega);have s1:=jZ (E:=EW) okW ⟨g,0,V⟩ k n cap (by omega);have s2:=gY (E:=EW) okW W.heap.size k (n+1) G (by omega) (by omega);have s3:=gY (E:=EW) okW W.heap.size (k+1) (n+1) G (by omega) (by omega);have a1:=r1 28;have n1:=dQ W.drew R1 88;have bl:W.drew.heap.size=W.heap.size:=rfl;rw [bl] at n1;have g1:dK (W.drew.alloc (aG R1 88)) g cur 88:=dK.more (show dK W.drew g cur 88 from hg) _;have x1:dK (W.drew.alloc (aG R1 88)) b (lH c).toArray 88:=dK.more (show dK W.drew b _ 88 from hx) _;have q2:=r2 (W.drew.alloc (aG R1 88)) 3 (n+1-k) (G-k) n1 x1 rfl (by omega);have q3:=r3 ((W.drew.alloc (aG R1 88)).setRow W.heap.size R2).drew 3 (n+1-(k+1)) (G-(k+1)) (n-k) (cap-k) (dK.set n1 R2) (dK.other g1 (by omega) R2) (by omega);have Q:=ak (show Dm B l k c (L (Y ⟨g,0,V⟩) n cap) W (.returned (L (Y ⟨W.heap.size,0,V⟩) (n+1) G)) (((W.drew.alloc (aG R1 88)).setRow W.heap.size R2).drew.setRow W.heap.size R3) from ⟨_,rfl,by rw [hn]; exact ow _ B hB (dK.set (dK.set n1 R2) R3),below_setRow (below_setRow ((ah B W).drew.alloc hB _) hB _).drew hB _,fun j hj _=>(setRow_other _ W.heap.size j _ (by omega)).trans ((setRow_other _ W.heap.size j _ (by omega)).trans (Array.getElem?_push_lt hj |>.trans (Array.getElem?_eq_getElem hj).symm))⟩);have l1:l.length+1=n+1:=by rw [hn]
 rw [l1,<- hn] at a1;clear r1 r2 r3 ow hg ht hx g1 x1 n1 bl l1;change ∀ w,(au 28 (L (Y ⟨g,0,V⟩) n cap) (Y (O U k)) V V).run Z w=.ok (L (Y ⟨g,k * 3,V⟩) (n-k) (cap-k)) w at s0;change ∀ w,(au 28 (L (Y ⟨g,0,V⟩) n cap) V (Y (O U k)) V).run Z w=.ok (L (Y ⟨g,0,V⟩) k cap) w at s1;change ∀ w,(au 28 (L (Y ⟨W.heap.size,0,V⟩) (n+1) G) (Y (O U k)) V V).run Z w=.ok (L (Y ⟨W.heap.size,k * 3,V⟩) (n+1-k) (G-k)) w at s2;change ∀ w,(au 28 (L (Y ⟨W.heap.size,0,V⟩) (n+1) G) (Y (O U ((k:Int)+1))) V V).run Z w=.ok (L (Y ⟨W.heap.size,(k+1) * 3,V⟩) (n+1-(k+1)) (G-(k+1))) w at s3;change (aX #[28,3] 28 #[L (Y ⟨g,0,V⟩) k cap,O U ((n:Int)+1-k)]).run Z W=.ok (L (Y ⟨W.heap.size,0,V⟩) (n+1) G) (W.drew.alloc (aG R1 88)) at a1;change (aK #[28,28] 3 #[L (Y ⟨W.heap.size,k * 3,V⟩) (n+1-k) (G-k),L (Y ⟨b,0,V⟩) 1 1]).run Z (W.drew.alloc (aG R1 88))=.ok (O U 1) ((W.drew.alloc (aG R1 88)).setRow W.heap.size R2) at q2;change (aK #[28,28] 3 #[L (Y ⟨W.heap.size,(k+1) * 3,V⟩) (n+1-(k+1)) (G-(k+1)),L (Y ⟨g,k * 3,V⟩) (n-k) (cap-k)]).run Z ((W.drew.alloc (aG R1 88)).setRow W.heap.size R2).drew=.ok (O U ((l.length-k:Nat):Int)) (((W.drew.alloc (aG R1 88)).setRow W.heap.size R2).drew.setRow W.heap.size R3) at q3;have e1:((k:Int) == (n:Int))=false:=by rw [beq_eq_false_iff_ne]; omega
 have e2:decide ((cap:Int)<(n:Int)+1)=true:=by simp; omega
 have hGn:n+1<=G:=by omega
 clear hn;generalize W.heap.size=N at *;generalize W.drew.alloc (aG R1 88)=W1 at *;generalize W1.setRow N R2=W2 at *;go_enter aW,aS;go_wp2_with (first | (at_builtin; refine jf rfl _ _ 28 3 rfl rfl rfl a1 ?_) | (at_builtin; refine wpList_copy_run rfl _ _ 28 rfl rfl rfl q2 ?_) | fail);clear a1 q2 s0 s1 s2 s3;have hw1:IntKind.i64.wrap ((k:Int)+1)=(k:Int)+1:=by rw [aT]; omega
 have hb1:(0:Int)<=(k:Int)+1:=by omega
 have hb0:(k:Int)+1<=(n:Int)+1:=by omega
 have htn:((k:Int)+1).toNat=k+1:=by omega
 have hb2:¬ (G=k+1):=by omega
 have hb3:(k:Int)<=(n:Int):=by omega
 have hb4:¬ (cap=k):=by omega
 have h81:n+1-(k+1)=n-k:=by omega
 rw [h81] at q3;clear h81
 go_region_law (refine iP rfl (aA 50) (aA 53) 28 rfl (v:=L (Y ⟨N,(k+1) * 3,V⟩) (n-k) (G-(k+1))) (xv:=L (Y ⟨g,k * 3,V⟩) (n-k) (cap-k)) (by simp [Act.eval,Act.put]) (by simp [Act.eval,Act.put]) q3 ?_)
 all_goals simp only [Exit.then]
 all_goals apply_assumption
 go_wp2;go_ret;exact Q.out
theorem Ll (B:Nat) (v:aI) (l:List ny) (k:Nat) (c:ny) (b:Nat) (W:aF) (ho:nM W B v l) (hx:dK W b (lH c).toArray 88) (hne:v.ownBlock≠Y b) (hk:k<=l.length) (hl:l.length<=900) (hB:B<=W.heap.size) :
  bF Z 43 #[v,O U k,L (Y ⟨b,0,V⟩) 1 1] W (Dm B l k c v W):=by
 rcases Nat.lt_or_ge k l.length with h|h
 ·rcases gB ho with⟨_,h2⟩|⟨g,cap,cur,rfl,h1,h2,h3,h4,h5,h6⟩
  ·rw [h2] at h; simp at h
  ·rcases Nat.lt_or_ge cap (l.length+1) with h7|h7
   ·exact Jq B g _ cap cur l k c b W rfl h2 h4 h3 h6 hx h h7 hl hB
   ·exact Fj B g _ cap cur l k c b W rfl h1 h2 h4 h5 h6 hx (fun e=>hne (by simp [Value.ownBlock,e])) h h7 hl
 ·obtain rfl:k=l.length:=by omega
  exact Lj B v l c b W ho hx hl hB
end Rt
namespace Av
open Go.RowKit Go.Sort Rw YtghlpefopidlaaaGreat.Nm Pr Bk
end Av
namespace Av
open Go.RowKit Go.Sort Rw YtghlpefopidlaaaGreat.Nm Pr Bk
theorem wC (x y:En):kC (dY x) (dY y)=true↔yB x y<0:=by
 rw [qZ];unfold kC dY;simp only [Bool.or_eq_true,Bool.and_eq_true,pV]
theorem UJ (x y:En) (h:dY x≠dY y):yB x y<0\/yB y x<0:=by
 rw [qZ,qZ];rcases mW x.tree y.tree with q|q|q
 ·exact bf (bf q)
 ·rcases mW x.sub y.sub with r|r|r
  ·exact bf (aC ⟨q,r⟩)
  ·exact absurd (Prod.ext q r) h
  ·exact aC (aC ⟨q.symm,r⟩)
 ·exact aC (bf q)
theorem Ht:∀ (l:List En) (x:En),∀ y∈l.take (dZ (l.map dY) (dY x)),yB y x<0
 | [],_,y,h=>by simp at h
 | a::l,x,y,h=>by
  unfold dZ at h;by_cases ha:kC (dY a) (dY x)=true
  ·simp only [aL,aP,ha,if_true,aU,List.take_succ_cons,aQ] at h;rcases h with rfl|h
   ·exact (wC _ _).1 ha
   ·exact Ht l x y h
  ·simp [ha] at h
theorem Hu:∀ {l:List En} (_:l.Pairwise fun x y=>yB x y<0) (x:En) (_:∀ y∈l,dY y≠dY x),∀ y∈l.drop (dZ (l.map dY) (dY x)),yB x y<0
 | [],_,_,_,y,h=>by simp at h
 | a::l,hr,x,hn,y,h=>by
  unfold dZ at h;have hr':=aR.1 hr;by_cases ha:kC (dY a) (dY x)=true
  ·simp only [aL,aP,ha,if_true,aU,List.drop_succ_cons] at h;exact Hu hr'.2 x (fun y hy=>hn y (aN _ hy)) y h
  ·simp [ha] at h;have hax:yB x a<0:=by
    rcases UJ a x (hn a (by simp)) with q|q
    ·exact absurd ((wC _ _).2 q) ha
    ·exact q
   rcases h with rfl|h
   ·exact hax
   ·exact CY _ _ _ hax (hr'.1 y h)
theorem UM {l:List En} (hr:l.Pairwise fun x y=>yB x y<0) (x:En) (hn:∀ y∈l,dY y≠dY x):(fM l (dZ (l.map dY) (dY x)) x).Pairwise fun x y=>yB x y<0:=by
 unfold fM;have h1:=hr.sublist (List.take_sublist (dZ (l.map dY) (dY x)) l);have h2:=hr.sublist (List.drop_sublist (dZ (l.map dY) (dY x)) l);have lo:=Ht l x;have hi:=Hu hr x hn;rw [List.append_assoc,List.pairwise_append];refine⟨h1,?_,fun a ha b hb=>?_⟩
 ·rw [aM,aR];exact⟨fun b hb=>hi b hb,h2⟩
 ·rw [aM,aQ] at hb;rcases hb with rfl|hb
  ·exact lo a ha
  ·exact CY _ _ _ (lo a ha) (hi b hb)
theorem Hw:∀ (l:List eU) (x:eU),x ∉ l->fO l x=-1
 | [],_,_=>rfl
 | a::l,x,h=>by
  rw [fO,if_neg fun e=>h (by rw [e]; simp),Hw l x fun q=>h (aN _ q),if_pos rfl]
theorem YL {κ:Type} [DecidableEq κ] {l:List κ} {x:κ} (h:jc l x=-1):x ∉ l:=by
 rcases mH l x with _|⟨k,h1,_⟩
 ·intro hm
  induction l with
  | nil=>simp at hm
  | cons a l ih =>
   rw [jc] at h
   split at h
   ·cases h
   ·rename_i hne
    split at h
    ·rename_i h2
     rcases aQ.1 hm with e|e
     ·exact hne e.symm
     ·exact ih h2 h2 e
    ·rename_i h2
     have:=mH l x;rcases this with q|⟨k,q,_⟩
     ·exact h2 q
     ·omega
 ·omega
theorem Pf {b:Br} (h:iC b) {l:List En} (hp:l.Pairwise fun x y=>yB x y<0) (ho:∀ e∈l,zF b e=true):iC { b with ent:=l } :=
 ⟨h.near,h.seen,h.dO,hp,h.own,h.oks,fun e he=>tN (b:=b) rfl rfl (ho e he),h.oko⟩
theorem YM {b:Br} (h:iC b) (e:En) (hc:lT b.near e.from_=true) (hq:Wr.iW e.p=true):iC (iB b e).1:=by
 unfold iB
 split
 ·exact h
 ·rename_i a ha
  split
  ·exact h
  ·rename_i h1
   split
   ·exact h
   ·rename_i h2
    split
    ·exact h
    ·rename_i h3
     have hid:a.id=e.tree:=by
      have hm:e.tree∈b.dO.map Ad.id:=Decidable.byContradiction fun q=>h1 (Hw _ _ q);obtain⟨k2,h5,h6⟩:=GV _ _ hm;rw [h5,Int.toNat_natCast] at ha;rw [aJ,ha] at h6;exact J h6
     have hf:gJ b.dO e.tree=Y a:=by
      rw [<- hid];exact mU h.dO (aO ha)
     have hins:=UM h.ent { e with up:=decide (a.par≠-1) && !fA b.ent e.tree e.p } fun y hy hk=>by
      have hm:dY e∈b.ent.map dY:=List.mem_map.2 ⟨y,hy,hk⟩;have h9:jc (b.ent.map dY) (dY e)=-1:=Decidable.not_not.1 h2;exact YL h9 hm
     refine Pf h hins fun q hq2=>?_;rcases (jM _ _ _ _).1 hq2 with rfl|hq2
     ·unfold zF;simp only [hf];have h4:¬ (e.from_≠-1/\e.from_=a.par):=h3;rw [hc,hq];by_cases g1:e.from_=a.par
      ·have g2:a.par=-1:=by
        rw [<- g1];exact Decidable.byContradiction fun q=>h4 ⟨q,g1⟩
       simp [g1,g2]
      ·by_cases g2:a.par=-1 <;> simp [g1,g2]
     ·exact h.QH q hq2
theorem Fp (t:eU) (s:List En×List En) (k:Nat):(iH t s k).1.map dY=s.1.map dY:=by
 unfold iH
 split
 ·rfl
 ·rename_i e he
  split
  ·rw [List.map_set];refine List.ext_getElem? fun j=>?_;rw [List.getElem?_set]
   split
   ·rename_i hj
    subst hj
    split
    ·rw [aJ,he]
     rfl
    ·rename_i hl
     rw [List.getElem?_eq_none (by simpa using hl)]
   ·rfl
  ·rfl
theorem xG (t:eU) (m:List En):∀ k,(iN t m k).1.map dY=m.map dY
 | 0=>rfl
 | k+1=>by rw [kF,Fp,xG t m k]
theorem UQ {l m:List En} (h:l.map dY=m.map dY) (hp:m.Pairwise fun x y=>yB x y<0):l.Pairwise fun x y=>yB x y<0:=by
 have h1:∀ l:List En,(l.Pairwise fun x y=>yB x y<0)↔(l.map dY).Pairwise fun x y=>kC x y=true:=fun l=>by
  rw [List.pairwise_map];exact⟨fun q=>q.imp fun {a b} r=>(wC a b).2 r,fun q=>q.imp fun {a b} r=>(wC a b).1 r⟩
 rw [h1,h,<- h1];exact hp
theorem tQ {α:Type} (l:List α) (k:Nat):(cutAt l k).Sublist l:=by
 unfold cutAt
 conv=>rhs; rw [<- List.take_append_drop k l]
 exact (List.Sublist.refl _).append (List.drop_sublist_drop_left l (Nat.le_succ k))
theorem acM {b:Br} (h:iC b) (t x:eU) (f:Int):iC (takeB b t x f).1:=by
 unfold takeB
 split
 ·exact h
 ·rename_i e0 he0
  split
  ·exact h
  ·rename_i h1
   split
   ·exact h
   ·split
    ·exact Pf h (h.ent.sublist (tQ _ _)) fun q hq=>h.QH q (pW hq)
    ·rename_i hup
     have anl:e0.up=true:=by simpa using hup
     have ht:e0.tree=t:=by
      rcases mH (b.ent.map dY) (t,x) with q|⟨k,q,r⟩
      ·exact absurd q h1
      ·rw [q,Int.toNat_natCast] at he0;rw [aJ,he0] at r;exact congrArg Prod.fst (J r)
     have ho0:=h.QH e0 (aO he0);refine Pf h (UQ (xG _ _ _) (h.ent.sublist (tQ _ _))) ?_;refine (zG (fun e=>zF b e=true) (fun e he hr=>?_) (fun q hq=>h.QH q (pW hq)) _).1;unfold zF at hr ho0 ⊢;rw [ht] at ho0;show (match gJ b.dO e.tree with | none=>false | some a=>_)=true;rw [he] at hr ⊢;cases hfa:gJ b.dO t with
     | none=>rw [hfa] at hr; cases hr
     | some a =>
      rw [hfa] at hr ho0;simp only [Bool.and_eq_true] at hr ho0 ⊢;refine⟨hr.1,hr.2.1,?_,hr.2.2.2⟩;have h9:=ho0.2.2.1;rw [anl] at h9;exact h9
end Av
namespace Fl
open Go.RowKit Go.Sort Rw YtghlpefopidlaaaGreat.Nm Pr Bk Av
theorem acN {W:aF} {b:Nat} {z0 z1 z2 z3 z4 z5 z6:aI} (h:dK W b #[z0,z1,z2,z3,z4,z5,z6] 43) (a0 a1 a2 a3 a4:Int) (o5:Option aY) (n5 c5:Nat) (o6:Option aY) (n6 c6:Nat) :
  (aZ 43 (X (Y ⟨b,0,V⟩)) (aH #[O U a0,O U a1,O U a2,O U a3,O U a4,L o5 n5 c5,L o6 n6 c6])).run Z W=.ok () (Ka W b (O U a0) (O U a1) (O U a2) (O U a3) (O U a4) (L o5 n5 c5) (L o6 n6 c6)):=by
 obtain⟨x0,x1,x2,x3,x4,x5,x6⟩:=h.pG;obtain⟨f0,f1,f2,f3,f4,f5,f6⟩:=h.fs7;simp [go_sem,x0,x1,x2,x3,x4,x5,x6,f0,f1,f2,f3,f4,f5,f6]
theorem YN (w:aF) (b:Nat) (a0 a1 a2 a3 a4 a5 a6:aI):But b w (Ka w b a0 a1 a2 a3 a4 a5 a6) :=
 (((eF _ b _ _).trans (eF _ b _ _)).trans ((eF _ b _ _).trans (eF _ b _ _))).trans (((eF _ b _ _).trans (eF _ b _ _)).trans (eF _ b _ _))
theorem Lm {w W:aF} {B b:Nat} (h:Below B w W) (hb:B<=b) (a0 a1 a2 a3 a4 a5 a6:aI):Below B w (Ka W b a0 a1 a2 a3 a4 a5 a6) :=
 ((((((h.setCell (p:=⟨b,0,V⟩) hb a0).setCell (p:=⟨b,1,V⟩) hb a1).setCell (p:=⟨b,2,V⟩) hb a2).setCell (p:=⟨b,3,V⟩) hb a3).setCell (p:=⟨b,4,V⟩) hb a4).setCell (p:=⟨b,5,V⟩) hb a5).setCell (p:=⟨b,6,V⟩) hb a6
def Q0 (B:Nat) (b1 _b2:Nat) (y1 y2 y3 y4:Int) (po:Option aY) (pn pc:Nat) (_y6:Int) (_y7:Bool) (p:List C5) (i:Nat) (v:aI) (x:aF):Prop :=
 match i with
 | 0=>v=X (Y ⟨b1,0,V⟩)
 | 1=>v=aH #[O U y1,O U y2]
 | 2=>v=X (Y ⟨b1,2,V⟩)
 | 3=>v=aH #[O U y3,O U y4]
 | 4=>v=X (Y ⟨b1,4,V⟩)
 | 5=>v=L po pn pc
 | 6=>∃ s:Sl,v=dX s/\iJ x B (dX s) p
 | 7=>∃ s:Sl,v=aH #[O U 3,O U y1,O U y2,O U y3,O U y4,dX s,L V 0 0]/\iJ x B (dX s) p
 | _=>True
noncomputable def aed:Code:=((Tryz.f115.body.bind (eO 1)).getD .skip)
theorem YO (B:Nat) (b1 b2:Nat) (y1 y2 y3 y4:Int) (po:Option aY) (pn pc:Nat) (y6:Int) (y7:Bool) (p:List C5) (i:Nat) (v:aI) (x x':aF) (h:Q0 B b1 b2 y1 y2 y3 y4 po pn pc y6 y7 p i v x) (hb:Below x.heap.size x x'):Q0 B b1 b2 y1 y2 y3 y4 po pn pc y6 y7 p i v x':=by
 by_cases hi:i<8
 ·rcases (by omega:i=0\/i=1\/i=2\/i=3\/i=4\/i=5\/i=6\/i=7) with rfl|rfl|rfl|rfl|rfl|rfl|rfl|rfl
  ·exact h
  ·exact h
  ·exact h
  ·exact h
  ·exact h
  ·exact h
  ·obtain⟨s,h1,h2⟩:=h; exact⟨s,h1,Bk.dI h2 hb⟩
  ·obtain⟨s,h1,h2⟩:=h; exact⟨s,h1,Bk.dI h2 hb⟩
 ·unfold Q0
  split <;> first | omega | trivial
theorem anm (Q:Exit->Act->aF->Prop) (W:aF) (b1 b2:Nat) (y1 y2 y3 y4:Int) (po:Option aY) (pn pc:Nat) (y6:Int) (y7:Bool) (p:List C5) (T a0 a3 a4 a5 a6 a7 a8 aE:aI)
  (h1:dK W b1 #[O U y1,O U y2,O U y3,O U y4,L po pn pc,O U y6,bG y7] 67) (h2:dK W b2 #[O U 0,O U 0,O U 0,O U 0,O U 0,L V 0 0,L V 0 0] 43) (r5:fI W (L po pn pc) p) (l5:p.length<=900)
  (hQ:∀ (x:aF) (b9 bJ bQ c7 c8 c9 cA cC:aI) (q1:Option aY) (q2 q3:Nat),dK x b2 #[O U 3,O U y1,O U y2,O U y3,O U y4,L q1 q2 q3,L V 0 0] 43->iJ x W.heap.size (L q1 q2 q3) p->(∀ B,B<=b2->Below B W x)->Q .normal ⟨(T::X (Y ⟨b1,0,V⟩)::X (Y ⟨b2,0,V⟩)::b9::bJ::bQ::c7::c8::c9::cA::cC::[]).toArray,[]⟩ x) :
  Code.wp Z aed Q ⟨(T::X (Y ⟨b1,0,V⟩)::X (Y ⟨b2,0,V⟩)::a0::a3::a4::a5::a6::a7::a8::aE::[]).toArray,[]⟩ W:=by
 have HQ:=ak hQ;have H1:=ak h1;have H2:=ak h2;have R5:=ak r5;have L5:=ak l5;clear hQ h1 h2 r5 l5;have jW:=YO W.heap.size b1 b2 y1 y2 y3 y4 po pn pc y6 y7 p;unfold aed
 conv=>arg 2; whnf
 have nd:∀ j,(j<3\/11<=j)->∀ i,i<8->(fun i=>3+i) i≠j:=by
  intro j hj i hi h;simp only at h;omega
 refine Rg.gU 9 8 (fun i=>3+i) (fun _=>8) (Q0 W.heap.size b1 b2 y1 y2 y3 y4 po pn pc y6 y7 p) (by kernel_rfl) (by kernel_rfl) rfl (by decide) (fun i j _ _ h=>by have h2:3+i=3+j:=h; omega) (fun i hi=>by show 3+i<11; omega) ?_ (fun _=>Rg.kL 14 (by kernel_rfl)) ?_ ?_
 ·intro i o hi ho a x D hnd hc hD hb seen K hK;clear HQ;rcases (by omega:i=0\/i=1\/i=2\/i=3\/i=4\/i=5\/i=6\/i=7) with rfl|rfl|rfl|rfl|rfl|rfl|rfl|rfl
  ·cases ho;have e1:a.eval (aA 1)=X (Y ⟨b1,0,V⟩):=seen.kp 1 _ (nd 1 (by omega)) rfl;exact Rg.dG rfl rfl (Rg.dW a.eval _ 67 (aA 1) 0 rfl (by rw [e1]; simp [go_sem])) (hK _ _ rfl (ah _ _) fun _ _ _ _ _ _ _ h=>h)
  ·cases ho;have e3:a.eval (aA 3)=X (Y ⟨b1,0,V⟩):=seen.at_ ⟨0,.data⟩ (by simp) rfl (aC (by decide));have y1:=(H1.out.on hb).cell 1;have y0:=(H1.out.on hb).cell 0;simp only [aj,ay,aB] at y0 y1;exact Rg.dG rfl rfl (Rg.dU a.eval _ 23 (aA 3) rfl (by rw [e3]; simp [go_sem,y0,y1])) (hK _ _ rfl (ah _ _) fun _ _ _ _ _ _ _ h=>h)
  ·cases ho;have e1:a.eval (aA 1)=X (Y ⟨b1,0,V⟩):=seen.kp 1 _ (nd 1 (by omega)) rfl;exact Rg.dG rfl rfl (Rg.dW a.eval _ 67 (aA 1) 1 rfl (by rw [e1]; simp [go_sem])) (hK _ _ rfl (ah _ _) fun _ _ _ _ _ _ _ h=>h)
  ·cases ho;have e5:a.eval (aA 5)=X (Y ⟨b1,2,V⟩):=seen.at_ ⟨2,.data⟩ (by simp) rfl (aC (by decide));have y2:=(H1.out.on hb).cell 2;have y3:=(H1.out.on hb).cell 3;simp only [aj,ay,aB] at y2 y3;exact Rg.dG rfl rfl (Rg.dU a.eval _ 23 (aA 5) rfl (by rw [e5]; simp [go_sem,y2,y3])) (hK _ _ rfl (ah _ _) fun _ _ _ _ _ _ _ h=>h)
  ·cases ho;have e1:a.eval (aA 1)=X (Y ⟨b1,0,V⟩):=seen.kp 1 _ (nd 1 (by omega)) rfl;exact Rg.dG rfl rfl (Rg.dW a.eval _ 67 (aA 1) 2 rfl (by rw [e1]; simp [go_sem])) (hK _ _ rfl (ah _ _) fun _ _ _ _ _ _ _ h=>h)
  ·cases ho;have e7:a.eval (aA 7)=X (Y ⟨b1,4,V⟩):=seen.at_ ⟨4,.data⟩ (by simp) rfl (aC (by decide));have y4:=(H1.out.on hb).cell 4;simp only [aj,ay,aB] at y4;exact Rg.dG rfl rfl (Rg.dU a.eval _ 34 (aA 7) rfl (by rw [e7]; simp [go_sem,y4])) (hK _ _ rfl (ah _ _) fun _ _ _ _ _ _ _ h=>h)
  ·cases ho;have e8:a.eval (aA 8)=L po pn pc:=seen.at_ ⟨5,.data⟩ (by simp) rfl (aC (by decide));exact Rg.gP rfl rfl (Rw.iZ a.eval _ (aA 8) 34 44 rfl e8 rfl _ (fV Tryz.func44 rfl rfl _ _)) (nX (po,pn,pc) p x (R5.out.on hb) L5.out) fun e w1 h=>by
    obtain⟨⟨s,rfl,h1⟩,h3⟩:=h;exact⟨_,rfl,hK _ _ ⟨s,rfl,dM h1 hb.size⟩ (h3.mono hb.size) fun j u hj _ _ _ hne h=>jW j u _ _ h h3⟩
  ·cases ho;have e4:a.eval (aA 4)=aH #[O U y1,O U y2]:=seen.at_ ⟨1,.data⟩ (by simp) rfl (aC (by decide));have e6:a.eval (aA 6)=aH #[O U y3,O U y4]:=seen.at_ ⟨3,.data⟩ (by simp) rfl (aC (by decide));have E9:=seen.at_ ⟨6,.data⟩ (by simp) rfl (aC (by decide));obtain⟨s,q0,q1⟩:=E9;have q0:a.eval (aA 9)=dX s:=q0;exact Rg.dG rfl rfl (Rg.jg a.eval _ 43 #[(0,.const (O U 3)),(1,aA 4),(2,aA 6),(3,aA 9)] rfl (by simp only [aV,aL,bg,e4,e6,q0]; rfl) (v:=aH #[O U 3,O U y1,O U y2,O U y3,O U y4,dX s,L V 0 0]) (by simp [go_sem])) (hK _ _ ⟨s,rfl,q1⟩ (ah _ _) fun _ _ _ _ _ _ _ h=>h)
 ·intro kk o h1 h2 ho;omega
 ·intro a w' df sz kp ⟨vs,hv⟩ hb;have sz':a.tmps.size=11:=sz;have g2:a.tmps[2]?=Y (X (Y ⟨b2,0,V⟩)):=(kp 2 (nd 2 (by omega))).trans rfl;obtain⟨⟨q1,q2,q3⟩,hs,ho⟩:=(hv 7 (by omega)).2 (by decide);have g10:a.tmps[10]?=Y (aH #[O U 3,O U y1,O U y2,O U y3,O U y4,L q1 q2 q3,L V 0 0]):=((hv 7 (by omega)).1).trans (congrArg Y hs);have hB:=H2.out.on hb;have hlt:=H2.out.lt;show Rg.fZ _ _ _ 1 8 a w';simp only [Rg.fZ];refine Rg.gu 43 (aA 2) (aA 10) rfl rfl rfl rfl (Rg.dP g2) (Rg.dP g10) (w':=Ka w' b2 (O U 3) (O U y1) (O U y2) (O U y3) (O U y4) (L q1 q2 q3) (L V 0 0)) (acN hB _ _ _ _ _ _ _ _ _ _ _) ?_;have hbx:=Gp hB (O U 3) (O U y1) (O U y2) (O U y3) (O U y4) (L q1 q2 q3) (L V 0 0);have hbt:=YN w' b2 (O U 3) (O U y1) (O U y2) (O U y3) (O U y4) (L q1 q2 q3) (L V 0 0);have rJ:∀ j,(j<3\/11<=j)->(a).tmps[j]?=(T::X (Y ⟨b1,0,V⟩)::X (Y ⟨b2,0,V⟩)::a0::a3::a4::a5::a6::a7::a8::aE::[])[j]?:=fun j hj=>(kp j (nd j (by omega))).trans aj;obtain⟨mid,hmid,hfr⟩:=Rg.gM (a:=a) 3 8 df (by simp [sz']) (by simp) rJ;show Q .normal (a) _;rw [hfr]
  match mid,hmid with
  | [b9,bJ,bQ,c7,c8,c9,cA,cC],_ =>
   exact HQ.out _ _ _ _ _ _ _ _ _ q1 q2 q3 hbx (hbt.own ho hB (by decide)) (fun B hBl=>Lm (hb.mono (Nat.le_of_lt (Nat.lt_of_le_of_lt hBl hlt))) hBl _ _ _ _ _ _ _)
theorem Hy (z:jk) (p:List C5) (w:aF) (hp:fI w (dX z.2.2.2.2.1) p) (hl:p.length<=900) :
  bF Z 115 #[qO z] w fun e w'=>(∃ s:Sl,e=.returned (aH #[O U 3,O U z.1,O U z.2.1,O U z.2.2.1,O U z.2.2.2.1,dX s,L V 0 0])/\iJ w' w.heap.size (dX s) p)/\Below w.heap.size w w':=by
 obtain⟨y1,y2,y3,y4,⟨po,pn,pc⟩,y6,y7⟩:=z;obtain⟨h0,h1,h2⟩:=iI w #[O U y1,O U y2,O U y3,O U y4,L po pn pc,O U y6,bG y7] #[O U 0,O U 0,O U 0,O U 0,O U 0,L V 0 0,L V 0 0] 67 43;have GB:=ak h0;have X1:=ak h1;have X2:=ak h2;have HP:=ak (hp.on h0);clear h0 h1 h2 hp;show bF Z 115 #[aH #[O U y1,O U y2,O U y3,O U y4,L po pn pc,O U y6,bG y7]] w _;go_enter Tryz.func115,Tryz.ntmps115;go_upto_region 1 with fail;generalize (w.alloc (aG #[O U y1,O U y2,O U y3,O U y4,L po pn pc,O U y6,bG y7] 67)).alloc (aG #[O U 0,O U 0,O U 0,O U 0,O U 0,L V 0 0,L V 0 0] 43)=W at *;refine anm _ W w.heap.size (w.heap.size+1) y1 y2 y3 y4 po pn pc y6 y7 p _ _ _ _ _ _ _ _ _ X1.out X2.out HP.out hl ?_;intro x T a0 a3 a4 v7 v8 v9 v10 q1 q2 q3 hbx ho hbl;have FB:=ak hbx;have OO:=ak (dM ho GB.out.size);have G2:=ak (GB.out.trans (hbl w.heap.size (by omega)));clear hbx ho hbl GB X1 X2 HP;go_wp2_with fail;obtain⟨a5,a6,a7,T,a0,a3,a4⟩:=FB.out.pG;refine bodyPost_ret (v:=aH #[O U 3,O U y1,O U y2,O U y3,O U y4,L q1 q2 q3,L V 0 0]) (by simp [results,Tryz.results115,go_sem,a5,a6,a7,T,a0,a3,a4]) rfl ?_;exact⟨⟨(q1,q2,q3),rfl,OO.out⟩,G2.out⟩
end Fl
namespace Av
open Go.RowKit Go.Sort Rw YtghlpefopidlaaaGreat.Nm Pr Bk
def aki (B:Nat) (bq _ _:Nat) (z0 _ _ _ _ t1 t2 i1 i2:Int) (h1:Option aY) (h2 h3:Nat) (g1:Option aY) (g2 g3:Nat) (has vals:List Int) (i:Nat) (v:aI) (x:aF):Prop :=
 match i with
 | 0=>v=X (Y ⟨bq,0,V⟩)
 | 1=>v=O U z0
 | 2=>v=O U (aD z0 1 7)
 | 3=>v=aH #[O U t1,O U t2]
 | 4=>v=aH #[O U i1,O U i2]
 | 5=>v=X (Y ⟨bq,5,V⟩)
 | 6=>v=aH #[L h1 h2 h3,L g1 g2 g3]
 | 7=>∃ s:Sl,v=dX s/\iJ x B (dX s) ((jw has vals 7).map r5)
 | 8=>∃ s:Sl,v=aH #[O U (aD z0 1 7),O U t1,O U t2,O U i1,O U i2,dX s,L V 0 0]/\iJ x B (dX s) ((jw has vals 7).map r5)
 | 9=>True
 | 10=>True
 | _=>True
noncomputable def aee:Code:=((Tryz.f13.body.bind (eO 14)).getD .skip)
theorem ano (Q:Exit->Act->aF->Prop) (W:aF) (bq b7 b8:Nat) (z0 z1 z2 z3 z4 t1 t2 i1 i2:Int) (h1:Option aY) (h2 h3:Nat) (g1:Option aY) (g2 g3:Nat) (has vals:List Int) (dT e9 eA eB eC eE eI j9 T a0 a3 a4 a5 a6 a7 a8 aE b9 bJ bQ c7 c8 c9 cA cC cD cF cG cH cI cJ cL cM cN cP cQ cR cS cT cU cV cW cX cY d1 d3 d4 d5 d7 d9 dA dC dE dS jV k6 k7 k8 k9 kA kB kO kX eJ eK eL eM eN eQ eS eV eW f7 f8 f9 fL fN fP fR fS fW fX fY g0 g6 g9 gE gO gR gS hG hH hJ hL hM hO hS hT hU hW hX hY hZ i0 i3 i4 i5 i6 i7 i8 i9 iF iS j0 j2 j3 j4 j5 j6 j7 j8:aI)
  (q:dK W bq #[O U z0,O U z1,O U z2,O U z3,O U z4,L h1 h2 h3,L g1 g2 g3] 63) (d0:-9223372036854775808<=z0/\z0<=9223372036854775807) (x7:dK W b7 #[O U t1,O U t2] 23) (x8:dK W b8 #[O U i1,O U i2] 23) (ih:In.kQ W (L h1 h2 h3) has) (iv:In.kQ W (L g1 g2 g3) vals) (lh:has.length<=maxLen) (lv:vals.length<=maxLen)
  (hQ:∀ (x:aF) (bb:Nat) (l0 lA lB lD lE lF lL lO lP:aI) (m1:Option aY) (m2 m3:Nat),W.heap.size<=bb->dK x bb #[O U (aD z0 1 7),O U t1,O U t2,O U i1,O U i2,L m1 m2 m3,L V 0 0] 43->iJ x W.heap.size (L m1 m2 m3) ((jw has vals 7).map r5)->Below W.heap.size W x->Q .normal ⟨(dT::e9::eA::eB::eC::eE::X (Y ⟨bq,0,V⟩)::X (Y ⟨b7,0,V⟩)::X (Y ⟨b8,0,V⟩)::eI::X (Y ⟨bb,0,V⟩)::T::a0::a3::a4::a5::a6::a7::a8::aE::b9::bJ::bQ::c7::c8::c9::cA::cC::cD::cF::cG::cH::cI::cJ::cL::cM::cN::cP::cQ::cR::cS::cT::cU::cV::cW::cX::cY::d1::d3::d4::d5::d7::d9::dA::dC::dE::dS::l0::lA::lB::lD::lE::lF::lL::lO::lP::eJ::eK::eL::eM::eN::eQ::eS::eV::eW::f7::f8::f9::fL::fN::fP::fR::fS::fW::fX::fY::g0::g6::g9::gE::gO::gR::gS::hG::hH::hJ::hL::hM::hO::hS::hT::hU::hW::hX::hY::hZ::i0::i3::i4::i5::i6::i7::i8::i9::iF::iS::j0::j2::j3::j4::j5::j6::j7::j8::[]).toArray,[]⟩ x) :
  Code.wp Z aee Q ⟨(dT::e9::eA::eB::eC::eE::X (Y ⟨bq,0,V⟩)::X (Y ⟨b7,0,V⟩)::X (Y ⟨b8,0,V⟩)::eI::j9::T::a0::a3::a4::a5::a6::a7::a8::aE::b9::bJ::bQ::c7::c8::c9::cA::cC::cD::cF::cG::cH::cI::cJ::cL::cM::cN::cP::cQ::cR::cS::cT::cU::cV::cW::cX::cY::d1::d3::d4::d5::d7::d9::dA::dC::dE::dS::jV::k6::k7::k8::k9::kA::kB::kO::kX::eJ::eK::eL::eM::eN::eQ::eS::eV::eW::f7::f8::f9::fL::fN::fP::fR::fS::fW::fX::fY::g0::g6::g9::gE::gO::gR::gS::hG::hH::hJ::hL::hM::hO::hS::hT::hU::hW::hX::hY::hZ::i0::i3::i4::i5::i6::i7::i8::i9::iF::iS::j0::j2::j3::j4::j5::j6::j7::j8::[]).toArray,[]⟩ W:=by
 have HQ:=ak hQ;have HQ6:=ak q;have D0:=ak d0;have H7:=ak x7;have H8:=ak x8;have IH:=ak ih;have IV:=ak iv;have LH:=ak lh;have LV:=ak lv;clear hQ q d0 x7 x8 ih iv lh lv;unfold aee
 conv=>arg 2; whnf
 have nb6:∀ i,i<11->[57,58,59,60,61,62,63,64,65,10,10].getD i 0≠6:=by decide
 have nb7:∀ i,i<11->[57,58,59,60,61,62,63,64,65,10,10].getD i 0≠7:=by decide
 have nb8:∀ i,i<11->[57,58,59,60,61,62,63,64,65,10,10].getD i 0≠8:=by decide
 refine Rg.vZ 11 9 10 8 (fun i=>[57,58,59,60,61,62,63,64,65,10,10].getD i 0) (fun i=>if i=7 then 8 else 11) (aki W.heap.size bq b7 b8 z0 z1 z2 z3 z4 t1 t2 i1 i2 h1 h2 h3 g1 g2 g3 has vals) 43 #[O U 0,O U 0,O U 0,O U 0,O U 0,L V 0 0,L V 0 0] (fun v=>match v with | aH c=>c | _=>#[]) (by kernel_rfl) (by kernel_rfl) rfl (by decide) (by decide) (by decide) (by decide) (by decide) (by decide) (by decide) (fun i j hi hj h1 h2 h=>(by decide:∀ i,i<11->∀ j,j<11->i≠10->j≠10->[57,58,59,60,61,62,63,64,65,10,10].getD i 0=[57,58,59,60,61,62,63,64,65,10,10].getD j 0->i=j) i hi j hj h1 h2 h) (fun i hi=>(by decide:∀ i,i<11->[57,58,59,60,61,62,63,64,65,10,10].getD i 0<124) i hi) ?_ ?_ ?_ ?_ ?_ ?_
 ·intro i v x x' hi h hb;rcases (by omega:i=0\/i=1\/i=2\/i=3\/i=4\/i=5\/i=6\/i=7\/i=8\/i=9\/i=10) with rfl|rfl|rfl|rfl|rfl|rfl|rfl|rfl|rfl|rfl|rfl
  ·exact h
  ·exact h
  ·exact h
  ·exact h
  ·exact h
  ·exact h
  ·exact h
  ·obtain⟨s,h1,h2⟩:=h; exact⟨s,h1,Bk.dI h2 hb⟩
  ·obtain⟨s,h1,h2⟩:=h; exact⟨s,h1,Bk.dI h2 hb⟩
  ·exact h
  ·exact h
 ·intro o ho;cases ho;exact⟨⟨⟨9,.data⟩,by simp,rfl,rfl⟩,⟨⟨8,.data⟩,by simp,rfl,rfl⟩⟩
 ·intro i o hi hiA Bl ho a x hb seen K hK;clear HQ;rcases (by omega:i=0\/i=1\/i=2\/i=3\/i=4\/i=5\/i=6\/i=7\/i=8) with rfl|rfl|rfl|rfl|rfl|rfl|rfl|rfl|rfl
  ·cases ho;have e6:a.eval (aA 6)=X (Y ⟨bq,0,V⟩):=seen.kp 6 _ nb6 rfl;exact Rg.dG rfl rfl (Rg.dW a.eval _ 63 (aA 6) 0 rfl (by rw [e6]; simp [go_sem])) (hK _ x rfl (ah _ _))
  ·cases ho;have e57:a.eval (aA 57)=X (Y ⟨bq,0,V⟩):=seen.at_ ⟨0,.data⟩ (by simp) rfl (by decide) (by decide) (aC (by decide));have y0:=(HQ6.out.on hb).cell 0;simp only [aj,ay] at y0;exact Rg.dG rfl rfl (Rg.dU a.eval _ 3 (aA 57) rfl (by rw [e57]; simp [go_sem,y0])) (hK _ x rfl (ah _ _))
  ·cases ho;have e58:a.eval (aA 58)=O U z0:=seen.at_ ⟨1,.data⟩ (by simp) rfl (by decide) (by decide) (aC (by decide));exact Rg.gP rfl rfl (Rg.Ca a.eval _ (aA 58) (.const (O U 1)) (.const (O U 7)) 3 14 rfl e58 rfl rfl rfl _ (fV Tryz.func14 rfl rfl _ _)) (Wi.kD z0 1 7 x (by omega) (by omega) (by omega) D0.out.1 D0.out.2) fun e w1 h=>by
    obtain⟨rfl,rfl⟩:=h;exact⟨_,rfl,hK _ _ rfl (ah _ _)⟩
  ·cases ho;have e7:a.eval (aA 7)=X (Y ⟨b7,0,V⟩):=seen.kp 7 _ nb7 rfl;obtain⟨y0,y1⟩:=(H7.out.on hb).cs2;exact Rg.dG rfl rfl (Rg.dU a.eval _ 23 (aA 7) rfl (by rw [e7]; simp [go_sem,y0,y1])) (hK _ x rfl (ah _ _))
  ·cases ho;have e8:a.eval (aA 8)=X (Y ⟨b8,0,V⟩):=seen.kp 8 _ nb8 rfl;obtain⟨y0,y1⟩:=(H8.out.on hb).cs2;exact Rg.dG rfl rfl (Rg.dU a.eval _ 23 (aA 8) rfl (by rw [e8]; simp [go_sem,y0,y1])) (hK _ x rfl (ah _ _))
  ·cases ho;have e6:a.eval (aA 6)=X (Y ⟨bq,0,V⟩):=seen.kp 6 _ nb6 rfl;exact Rg.dG rfl rfl (Rg.dW a.eval _ 63 (aA 6) 5 rfl (by rw [e6]; simp [go_sem])) (hK _ x rfl (ah _ _))
  ·cases ho;have e62:a.eval (aA 62)=X (Y ⟨bq,5,V⟩):=seen.at_ ⟨5,.data⟩ (by simp) rfl (by decide) (by decide) (aC (by decide));have y5:=(HQ6.out.on hb).cell 5;have y6:=(HQ6.out.on hb).cell 6;simp only [aj,ay,aB] at y5 y6;exact Rg.dG rfl rfl (Rg.dU a.eval _ 52 (aA 62) rfl (by rw [e62]; simp [go_sem,y5,y6])) (hK _ x rfl (ah _ _))
  ·cases ho;have e63:a.eval (aA 63)=aH #[L h1 h2 h3,L g1 g2 g3]:=seen.at_ ⟨6,.data⟩ (by simp) rfl (by decide) (by decide) (aC (by decide));exact Rg.gP rfl rfl (Rw.iZ a.eval _ (aA 63) 52 15 rfl e63 rfl _ (fV Tryz.func15 rfl rfl _ _)) (Cx (L h1 h2 h3) (L g1 g2 g3) has vals x (IH.out.on hb) (IV.out.on hb) LH.out LV.out) fun e w1 h=>by
    obtain⟨v,rfl,q1,q2⟩:=h;obtain⟨a1,a2,hvv⟩:=(Row.dJ q1).len;have q3:=dM q1 hb.size;rw [hvv] at q3;exact⟨_,rfl,hK _ _ ⟨(a1,_,a2),hvv,q3⟩ q2⟩
  ·cases ho;have e59:a.eval (aA 59)=O U (aD z0 1 7):=seen.at_ ⟨2,.data⟩ (by simp) rfl (by decide) (by decide) (aC (by decide));have e60:a.eval (aA 60)=aH #[O U t1,O U t2]:=seen.at_ ⟨3,.data⟩ (by simp) rfl (by decide) (by decide) (aC (by decide));have e61:a.eval (aA 61)=aH #[O U i1,O U i2]:=seen.at_ ⟨4,.data⟩ (by simp) rfl (by decide) (by decide) (aC (by decide));have E64:=seen.at_ ⟨7,.data⟩ (by simp) rfl (by decide) (by decide) (bf rfl);obtain⟨s,q0,q1⟩:=E64;have q0:a.eval (aA 64)=dX s:=q0;exact Rg.dG rfl rfl (Rg.jg a.eval _ 43 #[(0,aA 59),(1,aA 60),(2,aA 61),(3,aA 64)] rfl (ps:=#[(0,O U (aD z0 1 7)),(1,aH #[O U t1,O U t2]),(2,aH #[O U i1,O U i2]),(3,dX s)]) (by simp only [aV,aL,bg,e59,e60,e61,q0]) (by simp [go_sem])) (hK _ x ⟨s,rfl,q1⟩ (ah _ _))
 ·intro o ho a x K hK;cases ho;exact Rg.dG rfl rfl (Rg.xU a.eval _ 43 rfl (by simp [go_sem])) hK
 ·intro o ho a x bb v D hc hD hb hA hC Jr hbb ku K hK;clear HQ;cases ho;obtain⟨⟨m1,m2,m3⟩,hv1,hv2⟩:=Jr;subst hv1;obtain⟨x0,x1,x2,x3,x4,x5,x6⟩:=ku.pG;obtain⟨f0,f1,f2,f3,f4,f5,f6⟩:=ku.fs7;have hst:(aZ 43 (X (Y ⟨bb,0,V⟩)) (aH #[O U (aD z0 1 7),O U t1,O U t2,O U i1,O U i2,L m1 m2 m3,L V 0 0])).run Z x=.ok () (((((((x.setCell ⟨bb,0,V⟩ (O U (aD z0 1 7))).setCell ⟨bb,1,V⟩ (O U t1)).setCell ⟨bb,2,V⟩ (O U t2)).setCell ⟨bb,3,V⟩ (O U i1)).setCell ⟨bb,4,V⟩ (O U i2)).setCell ⟨bb,5,V⟩ (L m1 m2 m3)).setCell ⟨bb,6,V⟩ (L V 0 0)):=by simp [go_sem,x0,x1,x2,x3,x4,x5,x6,f0,f1,f2,f3,f4,f5,f6]
  have aif:=eu (k:=6) (eu (k:=5) (eu (k:=4) (eu (k:=3) (eu (k:=2) (eu (k:=1) (eu (k:=0) ku (O U (aD z0 1 7))) (O U t1)) (O U t2)) (O U i1)) (O U i2)) (L m1 m2 m3)) (L V 0 0);have kV:But bb x (((((((x.setCell ⟨bb,0,V⟩ (O U (aD z0 1 7))).setCell ⟨bb,1,V⟩ (O U t1)).setCell ⟨bb,2,V⟩ (O U t2)).setCell ⟨bb,3,V⟩ (O U i1)).setCell ⟨bb,4,V⟩ (O U i2)).setCell ⟨bb,5,V⟩ (L m1 m2 m3)).setCell ⟨bb,6,V⟩ (L V 0 0)):=(((((((eF _ bb _ _).trans (eF _ bb _ _)).trans (eF _ bb _ _)).trans (eF _ bb _ _)).trans (eF _ bb _ _)).trans (eF _ bb _ _)).trans (eF _ bb _ _));refine Rg.gu 43 (aA 10) (aA 65) rfl rfl rfl rfl hA hC hst (hK _ (((((((hb.setCell (p:=⟨bb,0,V⟩) hbb _).setCell (p:=⟨bb,1,V⟩) hbb _).setCell (p:=⟨bb,2,V⟩) hbb _).setCell (p:=⟨bb,3,V⟩) hbb _).setCell (p:=⟨bb,4,V⟩) hbb _).setCell (p:=⟨bb,5,V⟩) hbb _).setCell (p:=⟨bb,6,V⟩) hbb _) (by simpa using aif) ?_);exact fun j u hj hjA hjS hdj hnl hls h=>by
   rcases (by omega:j=0\/j=1\/j=2\/j=3\/j=4\/j=5\/j=6\/j=7\/j=8) with rfl|rfl|rfl|rfl|rfl|rfl|rfl|rfl|rfl
   ·have h2:u=X (Y ⟨bq,0,V⟩):=h; exact h2
   ·have h2:u=O U z0:=h; exact h2
   ·have h2:u=O U (aD z0 1 7):=h; exact h2
   ·have h2:u=aH #[O U t1,O U t2]:=h; exact h2
   ·have h2:u=aH #[O U i1,O U i2]:=h; exact h2
   ·have h2:u=X (Y ⟨bq,5,V⟩):=h; exact h2
   ·have h2:u=aH #[L h1 h2 h3,L g1 g2 g3]:=h; exact h2
   ·exact absurd (hD ⟨8,.data⟩ (by simp) rfl) hnl
   ·obtain⟨s,h1,h2⟩:=h; exact⟨s,h1,kV.own h2 ku (by decide)⟩
 ·intro a x bb v df sz kp gA gC hbb ku Jr hbel ⟨vs,hv⟩;obtain⟨⟨m1,m2,m3⟩,hv1,hv2⟩:=Jr;subst hv1;have g10:a.tmps[10]?=Y (X (Y ⟨bb,0,V⟩)):=gA;have rJ:∀ j,(j<10\/66<=j)->a.tmps[j]?=(dT::e9::eA::eB::eC::eE::X (Y ⟨bq,0,V⟩)::X (Y ⟨b7,0,V⟩)::X (Y ⟨b8,0,V⟩)::eI::j9::T::a0::a3::a4::a5::a6::a7::a8::aE::b9::bJ::bQ::c7::c8::c9::cA::cC::cD::cF::cG::cH::cI::cJ::cL::cM::cN::cP::cQ::cR::cS::cT::cU::cV::cW::cX::cY::d1::d3::d4::d5::d7::d9::dA::dC::dE::dS::jV::k6::k7::k8::k9::kA::kB::kO::kX::eJ::eK::eL::eM::eN::eQ::eS::eV::eW::f7::f8::f9::fL::fN::fP::fR::fS::fW::fX::fY::g0::g6::g9::gE::gO::gR::gS::hG::hH::hJ::hL::hM::hO::hS::hT::hU::hW::hX::hY::hZ::i0::i3::i4::i5::i6::i7::i8::i9::iF::iS::j0::j2::j3::j4::j5::j6::j7::j8::[])[j]?:=fun j hj=>(kp j (fun i hi h=>by have:=(by decide:∀ i,i<11->10<=[57,58,59,60,61,62,63,64,65,10,10].getD i 0/\[57,58,59,60,61,62,63,64,65,10,10].getD i 0<66) i hi; omega)).trans aj;obtain⟨mid,hmid,rfl⟩:=Rg.gM 10 56 df sz (by simp) rJ
  match mid,hmid with
  | lR::lX::m0::mA::mB::mC::mD::mJ::mL::mN::mP::mS::mT::mY::n0::nA::nB::nF::nJ::nL::nP::nQ::nS::nV::nW::o6::o9::oA::oE::oM::oT::oX::oY::p0::p6::p7::p9::pA::pB::pC::pD::pE::pF::pH::pJ::pL::pM::l0::lA::lB::lD::lE::lF::lL::lO::lP::[],_ =>
   obtain rfl:lR=X (Y ⟨bb,0,V⟩):=J g10;obtain rfl:lX=T:=J (kp 11 (fun i hi h=>(by decide:∀ i,i<11->[57,58,59,60,61,62,63,64,65,10,10].getD i 0≠11) i hi h));obtain rfl:m0=a0:=J (kp 12 (fun i hi h=>(by decide:∀ i,i<11->[57,58,59,60,61,62,63,64,65,10,10].getD i 0≠12) i hi h));obtain rfl:mA=a3:=J (kp 13 (fun i hi h=>(by decide:∀ i,i<11->[57,58,59,60,61,62,63,64,65,10,10].getD i 0≠13) i hi h));obtain rfl:mB=a4:=J (kp 14 (fun i hi h=>(by decide:∀ i,i<11->[57,58,59,60,61,62,63,64,65,10,10].getD i 0≠14) i hi h));obtain rfl:mC=a5:=J (kp 15 (fun i hi h=>(by decide:∀ i,i<11->[57,58,59,60,61,62,63,64,65,10,10].getD i 0≠15) i hi h));obtain rfl:mD=a6:=J (kp 16 (fun i hi h=>(by decide:∀ i,i<11->[57,58,59,60,61,62,63,64,65,10,10].getD i 0≠16) i hi h));obtain rfl:mJ=a7:=J (kp 17 (fun i hi h=>(by decide:∀ i,i<11->[57,58,59,60,61,62,63,64,65,10,10].getD i 0≠17) i hi h));obtain rfl:mL=a8:=J (kp 18 (fun i hi h=>(by decide:∀ i,i<11->[57,58,59,60,61,62,63,64,65,10,10].getD i 0≠18) i hi h));obtain rfl:mN=aE:=J (kp 19 (fun i hi h=>(by decide:∀ i,i<11->[57,58,59,60,61,62,63,64,65,10,10].getD i 0≠19) i hi h));obtain rfl:mP=b9:=J (kp 20 (fun i hi h=>(by decide:∀ i,i<11->[57,58,59,60,61,62,63,64,65,10,10].getD i 0≠20) i hi h));obtain rfl:mS=bJ:=J (kp 21 (fun i hi h=>(by decide:∀ i,i<11->[57,58,59,60,61,62,63,64,65,10,10].getD i 0≠21) i hi h));obtain rfl:mT=bQ:=J (kp 22 (fun i hi h=>(by decide:∀ i,i<11->[57,58,59,60,61,62,63,64,65,10,10].getD i 0≠22) i hi h));obtain rfl:mY=c7:=J (kp 23 (fun i hi h=>(by decide:∀ i,i<11->[57,58,59,60,61,62,63,64,65,10,10].getD i 0≠23) i hi h));obtain rfl:n0=c8:=J (kp 24 (fun i hi h=>(by decide:∀ i,i<11->[57,58,59,60,61,62,63,64,65,10,10].getD i 0≠24) i hi h));obtain rfl:nA=c9:=J (kp 25 (fun i hi h=>(by decide:∀ i,i<11->[57,58,59,60,61,62,63,64,65,10,10].getD i 0≠25) i hi h));obtain rfl:nB=cA:=J (kp 26 (fun i hi h=>(by decide:∀ i,i<11->[57,58,59,60,61,62,63,64,65,10,10].getD i 0≠26) i hi h));obtain rfl:nF=cC:=J (kp 27 (fun i hi h=>(by decide:∀ i,i<11->[57,58,59,60,61,62,63,64,65,10,10].getD i 0≠27) i hi h));obtain rfl:nJ=cD:=J (kp 28 (fun i hi h=>(by decide:∀ i,i<11->[57,58,59,60,61,62,63,64,65,10,10].getD i 0≠28) i hi h));obtain rfl:nL=cF:=J (kp 29 (fun i hi h=>(by decide:∀ i,i<11->[57,58,59,60,61,62,63,64,65,10,10].getD i 0≠29) i hi h));obtain rfl:nP=cG:=J (kp 30 (fun i hi h=>(by decide:∀ i,i<11->[57,58,59,60,61,62,63,64,65,10,10].getD i 0≠30) i hi h));obtain rfl:nQ=cH:=J (kp 31 (fun i hi h=>(by decide:∀ i,i<11->[57,58,59,60,61,62,63,64,65,10,10].getD i 0≠31) i hi h));obtain rfl:nS=cI:=J (kp 32 (fun i hi h=>(by decide:∀ i,i<11->[57,58,59,60,61,62,63,64,65,10,10].getD i 0≠32) i hi h));obtain rfl:nV=cJ:=J (kp 33 (fun i hi h=>(by decide:∀ i,i<11->[57,58,59,60,61,62,63,64,65,10,10].getD i 0≠33) i hi h));obtain rfl:nW=cL:=J (kp 34 (fun i hi h=>(by decide:∀ i,i<11->[57,58,59,60,61,62,63,64,65,10,10].getD i 0≠34) i hi h));obtain rfl:o6=cM:=J (kp 35 (fun i hi h=>(by decide:∀ i,i<11->[57,58,59,60,61,62,63,64,65,10,10].getD i 0≠35) i hi h));obtain rfl:o9=cN:=J (kp 36 (fun i hi h=>(by decide:∀ i,i<11->[57,58,59,60,61,62,63,64,65,10,10].getD i 0≠36) i hi h));obtain rfl:oA=cP:=J (kp 37 (fun i hi h=>(by decide:∀ i,i<11->[57,58,59,60,61,62,63,64,65,10,10].getD i 0≠37) i hi h));obtain rfl:oE=cQ:=J (kp 38 (fun i hi h=>(by decide:∀ i,i<11->[57,58,59,60,61,62,63,64,65,10,10].getD i 0≠38) i hi h));obtain rfl:oM=cR:=J (kp 39 (fun i hi h=>(by decide:∀ i,i<11->[57,58,59,60,61,62,63,64,65,10,10].getD i 0≠39) i hi h));obtain rfl:oT=cS:=J (kp 40 (fun i hi h=>(by decide:∀ i,i<11->[57,58,59,60,61,62,63,64,65,10,10].getD i 0≠40) i hi h));obtain rfl:oX=cT:=J (kp 41 (fun i hi h=>(by decide:∀ i,i<11->[57,58,59,60,61,62,63,64,65,10,10].getD i 0≠41) i hi h));obtain rfl:oY=cU:=J (kp 42 (fun i hi h=>(by decide:∀ i,i<11->[57,58,59,60,61,62,63,64,65,10,10].getD i 0≠42) i hi h));obtain rfl:p0=cV:=J (kp 43 (fun i hi h=>(by decide:∀ i,i<11->[57,58,59,60,61,62,63,64,65,10,10].getD i 0≠43) i hi h));obtain rfl:p6=cW:=J (kp 44 (fun i hi h=>(by decide:∀ i,i<11->[57,58,59,60,61,62,63,64,65,10,10].getD i 0≠44) i hi h));obtain rfl:p7=cX:=J (kp 45 (fun i hi h=>(by decide:∀ i,i<11->[57,58,59,60,61,62,63,64,65,10,10].getD i 0≠45) i hi h));obtain rfl:p9=cY:=J (kp 46 (fun i hi h=>(by decide:∀ i,i<11->[57,58,59,60,61,62,63,64,65,10,10].getD i 0≠46) i hi h));obtain rfl:pA=d1:=J (kp 47 (fun i hi h=>(by decide:∀ i,i<11->[57,58,59,60,61,62,63,64,65,10,10].getD i 0≠47) i hi h));obtain rfl:pB=d3:=J (kp 48 (fun i hi h=>(by decide:∀ i,i<11->[57,58,59,60,61,62,63,64,65,10,10].getD i 0≠48) i hi h));obtain rfl:pC=d4:=J (kp 49 (fun i hi h=>(by decide:∀ i,i<11->[57,58,59,60,61,62,63,64,65,10,10].getD i 0≠49) i hi h));obtain rfl:pD=d5:=J (kp 50 (fun i hi h=>(by decide:∀ i,i<11->[57,58,59,60,61,62,63,64,65,10,10].getD i 0≠50) i hi h));obtain rfl:pE=d7:=J (kp 51 (fun i hi h=>(by decide:∀ i,i<11->[57,58,59,60,61,62,63,64,65,10,10].getD i 0≠51) i hi h));obtain rfl:pF=d9:=J (kp 52 (fun i hi h=>(by decide:∀ i,i<11->[57,58,59,60,61,62,63,64,65,10,10].getD i 0≠52) i hi h));obtain rfl:pH=dA:=J (kp 53 (fun i hi h=>(by decide:∀ i,i<11->[57,58,59,60,61,62,63,64,65,10,10].getD i 0≠53) i hi h));obtain rfl:pJ=dC:=J (kp 54 (fun i hi h=>(by decide:∀ i,i<11->[57,58,59,60,61,62,63,64,65,10,10].getD i 0≠54) i hi h));obtain rfl:pL=dE:=J (kp 55 (fun i hi h=>(by decide:∀ i,i<11->[57,58,59,60,61,62,63,64,65,10,10].getD i 0≠55) i hi h));obtain rfl:pM=dS:=J (kp 56 (fun i hi h=>(by decide:∀ i,i<11->[57,58,59,60,61,62,63,64,65,10,10].getD i 0≠56) i hi h));exact HQ.out x bb _ _ _ _ _ _ _ _ _ m1 m2 m3 hbb ku hv2 hbel
end Av
end Go.Proofs.YtghlpefopidlaaaGreat
