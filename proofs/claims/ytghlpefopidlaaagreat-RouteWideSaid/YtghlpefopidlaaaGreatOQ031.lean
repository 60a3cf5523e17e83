/-
  slices.Insert of one. Conditions as told.
-/
import Derived.Test.YtghlpefopidlaaaGreatOQ027
import Derived.Test.YtghlpefopidlaaaGreatOQ029
set_option maxRecDepth 100000
set_option maxHeartbeats 64000000
open Go.Builtin renaming copy_->V,append_->ay
open Go.Instr renaming sliceAt->O
open Go.IntKind renaming i64->ah,wrap_i64->au
open Go.Obj renaming cells->X
open Go.Proofs.Tryz renaming prog->J,ntmps157->aj,func157->ak
open Go.RowKit.Below renaming refl->Y
open Go.Value renaming slice->D,int->Z
open _root_.Nat renaming le_refl->U,lt_or_ge->aA
open _root_.Option renaming none->K,some->L
namespace Go.Proofs.YtghlpefopidlaaaGreat
namespace Av
open Go.RowKit Rw YtghlpefopidlaaaGreat.Nm Pr Bk
theorem KZ {W:World} {b:Nat} {c:iT} (h:dx W b (iD c).toArray 67):nk W (D (L ⟨b,0,K⟩) 1 1) [c] :=
 Or.inr ⟨⟨b,0,K⟩,1,rfl,by simp,by decide,mY h (by simp [EN])⟩
def uZ (B:Nat) (l:List iT) (k:Nat) (c:iT) (vv:Value) (W:World) (e:Ending) (w':World):Prop:=∃ v',e=.returned v'/\jy w' B v' (l.take k++c::l.drop k)/\Below B W w'/\(∀ j,j<W.heap.size->L j≠vv.ownBlock->w'.heap[j]?=W.heap[j]?)
theorem Bp (B:Nat) (v:Value) (l:List iT) (c:iT) (b:Nat) (W:World) (ho:jy W B v l) (hx:dx W b (iD c).toArray 67) (hl:l.length<=900) (hB:B<=W.heap.size) :
  Calls J 157 #[v,Z ah (l.length:Nat),D (L ⟨b,0,K⟩) 1 1] W (uZ B l l.length c v W):=by
 obtain⟨v',w',hr,ho2,hg⟩:=jO lF B ho (KZ hx) (by omega) (by simp) hB 27;have hr:(ay #[27,27] 27 #[v,D (L ⟨b,0,K⟩) 1 1]).run J W=.ok v' w':=hr;have Q:=Lib.hid (show uZ B l l.length c v W (.returned v') w' from ⟨v',rfl,by rw [List.take_of_length_le (U _),List.drop_of_length_le (U _)]; exact ho2,(Y B W).grown hg hB (fun j hj=>(ho.lt j hj).1),fun j hj hne=>hg.block j hj hne⟩);obtain⟨sx,hs,_⟩:=tZ lF (Row.dB ho) l.length (U _);have hs:∀ w,(O 27 v (L (Z ah l.length)) K K).run J w=.ok sx w:=hs;obtain⟨ao,ac,rfl⟩:=(Row.dB ho).len;clear ho ho2 hg;generalize hn:l.length=n at *;clear hn;go_enter ak,aj;go_wp2_with (first | (at_builtin; refine wpList_append_run rfl _ _ 27 rfl rfl rfl hr ?_) | fail);go_ret;exact Q.out
theorem K4 (w:World) (g b k la lb cb:Nat) (cur cs:Array Value) (hb:dx w b cs 67) (hg:dx w g cur 67) (hne:b≠g) (h0:0<cur.size):(callFunc 181 #[D (L ⟨b,0,K⟩) la 1,D (L ⟨g,k,K⟩) lb cb]).run J w=.ok (.value (.bool false)) w:=by
 rw [run_callFunc_extern Tryz.func181 (by kernel_rfl) (by kernel_rfl) (by kernel_rfl) (e:=Extern.SlicesOverlaps.overlaps #[27,27] #[4]) (by kernel_rfl),
  Lib.run_overlaps_apart w 27 4 67 Tryz.underlying27 7 Tryz.sizeOf67 ⟨b,0,K⟩ ⟨g,k,K⟩ la 1 lb cb hne 67 67 cs.size cur.size hb.shape hg.shape (by omega) (hb.fr 0) (hb.fr _)]
 rfl
theorem wO (B g n cap:Nat) (cur:Array Value) (l:List iT) (k:Nat) (c:iT) (b:Nat) (W:World) (hn:n=l.length) (hBg:B<=g) (hg:dx W g cur 67) (hcm:cap<=maxLen) (hsz:cur.size=cap * 7) (ht:cur.toList.take (n * 7)=flat EN l) (hx:dx W b (iD c).toArray 67) (hne:b≠g) (hk:k<n) (hroom:n+1<=cap) (hl:n<=900) :
  Calls J 157 #[D (L ⟨g,0,K⟩) n cap,Z ah k,D (L ⟨b,0,K⟩) 1 1] W (uZ B l k c (D (L ⟨g,0,K⟩) n cap) W):=by
 obtain⟨R1,R2,r1,r2,ow⟩:=mh (E:=EN) (l:=l) (k:=k) (cap:=cap) (cur:=cur) (cs:=(iD c).toArray) (c:=c) lF (by omega) (by omega) hsz (by rw [<- hn]; exact ht) g b hne;have hov:=fun lb cb=>K4 W g b ((k+1) * 7) 1 lb cb cur (iD c).toArray hx hg hne (by omega);have s0:=fu (E:=EN) lF g k n cap (by omega) (by omega);have s1:=iB (E:=EN) lF ⟨g,0,K⟩ (n+1) n cap (by omega);have s2:=fu (E:=EN) lF g (k+1) (n+1) cap (by omega) (by omega);have s3:=fu (E:=EN) lF g k (n+1) cap (by omega) (by omega);have q1:=r1 W.drew 3 (n+1-(k+1)) (cap-(k+1)) (n+1-k) (cap-k) hg (by omega);have q2:=r2 (W.drew.setRow g R1) 3 (n+1-k) (cap-k) (dx.set (show dx W.drew g cur 67 from hg) R1) (dx.other (show dx W.drew b _ 67 from hx) hne R1) rfl (by omega);have Q:=Lib.hid (show uZ B l k c (D (L ⟨g,0,K⟩) n cap) W (.returned (D (L ⟨g,0,K⟩) (n+1) cap)) ((W.drew.setRow g R1).setRow g R2) from ⟨_,rfl,by rw [hn]; exact ow _ B hBg hcm (dx.set (dx.set (show dx W.drew g cur 67 from hg) R1) R2),below_setRow (below_setRow (Y B W).drew hBg _) hBg _,fun j hj hne=>(setRow_other _ g j _ (fun e=>hne (by rw [e]; rfl))).trans (setRow_other _ g j _ (fun e=>hne (by rw [e]; rfl)))⟩);clear r1 r2 ow hg ht hx hsz hBg hcm;change ∀ w,(O 27 (D (L ⟨g,0,K⟩) n cap) (L (Z ah k)) K K).run J w=.ok (D (L ⟨g,k * 7,K⟩) (n-k) (cap-k)) w at s0;change ∀ w,(O 27 (D (L ⟨g,0,K⟩) n cap) K (L (Z ah ((n:Int)+1))) K).run J w=.ok (D (L ⟨g,0,K⟩) (n+1) cap) w at s1;change ∀ w,(O 27 (D (L ⟨g,0,K⟩) (n+1) cap) (L (Z ah ((k:Int)+1))) K K).run J w=.ok (D (L ⟨g,(k+1) * 7,K⟩) (n+1-(k+1)) (cap-(k+1))) w at s2;change ∀ w,(O 27 (D (L ⟨g,0,K⟩) (n+1) cap) (L (Z ah k)) K K).run J w=.ok (D (L ⟨g,k * 7,K⟩) (n+1-k) (cap-k)) w at s3;have e1:((k:Int) == (n:Int))=false:=by rw [beq_eq_false_iff_ne]; omega
 have e2:decide ((cap:Int)<(n:Int)+1)=false:=by simp; omega
 change (V #[27,27] 3 #[D (L ⟨g,(k+1) * 7,K⟩) (n+1-(k+1)) (cap-(k+1)),D (L ⟨g,k * 7,K⟩) (n+1-k) (cap-k)]).run J W.drew=.ok (Z ah ((l.length-k:Nat):Int)) (W.drew.setRow g R1) at q1;change (V #[27,27] 3 #[D (L ⟨g,k * 7,K⟩) (n+1-k) (cap-k),D (L ⟨b,0,K⟩) 1 1]).run J (W.drew.setRow g R1)=.ok (Z ah 1) ((W.drew.setRow g R1).setRow g R2) at q2;clear hn;go_enter ak,aj;go_wp2_with (first | (simp only [hov]) | fail);clear hov s0 s1 s2 s3;have hw1:IntKind.i64.wrap ((k:Int)+1)=(k:Int)+1:=by rw [au]; omega
 have hb1:(0:Int)<=(k:Int)+1:=by omega
 have hb0:(k:Int)+1<=(n:Int)+1:=by omega
 have htn:((k:Int)+1).toNat=k+1:=by omega
 have hb2:¬ (cap=k+1):=by omega
 have hb3:(k:Int)<=(n:Int)+1:=by omega
 have hb4:¬ (cap=k):=by omega
 have h81:n+1-(k+1)=n-k:=by omega
 rw [h81] at q1;clear h81
 go_region_law (refine fO rfl (.tmp 73) (.tmp 76) 27 rfl (v:=D (L ⟨g,(k+1) * 7,K⟩) (n-k) (cap-(k+1))) (xv:=D (L ⟨g,k * 7,K⟩) (n+1-k) (cap-k)) (by simp [Act.eval,Act.put]) (by simp [Act.eval,Act.put]) q1 ?_)
 all_goals simp only [Exit.then]
 all_goals apply_assumption
 clear q1 hw1 hb1 hb0 htn hb2 hb3 hb4;have s3:=fu (E:=EN) lF g k (n+1) cap (by omega) (by omega);change ∀ w,(O 27 (D (L ⟨g,0,K⟩) (n+1) cap) (L (Z ah k)) K K).run J w=.ok (D (L ⟨g,k * 7,K⟩) (n+1-k) (cap-k)) w at s3;go_wp2_with (first | (at_builtin; refine wpList_copy_run rfl _ _ 27 rfl rfl rfl q2 ?_) | fail);go_ret;exact Q.out
theorem zB (B g n cap:Nat) (cur:Array Value) (l:List iT) (k:Nat) (c:iT) (b:Nat) (W:World) (hn:n=l.length) (hg:dx W g cur 67) (hcm:cap<=maxLen) (hnc:n<=cap) (ht:cur.toList.take (n * 7)=flat EN l) (hx:dx W b (iD c).toArray 67) (hk:k<n) (hroom:cap<n+1) (hl:n<=900) (hB:B<=W.heap.size) :
  Calls J 157 #[D (L ⟨g,0,K⟩) n cap,Z ah k,D (L ⟨b,0,K⟩) 1 1] W (uZ B l k c (D (L ⟨g,0,K⟩) n cap) W):=by
 have hgw:=hg.lt;have hbw:=hx.lt;obtain⟨G,R1,R2,R3,hG1,hG2,r1,r2,r3,ow⟩:=nU (E:=EN) (l:=l) (k:=k) (cap:=cap) (cur:=cur) (cs:=(iD c).toArray) (c:=c) lF 3 Tryz.underlying3 (by omega) (by omega) (by omega) (by omega) (by rw [<- hn]; exact ht) W g b hg hbw;unfold maxLen at hcm hG2;have s0:=fu (E:=EN) lF g k n cap (by omega) (by omega);have s1:=iB (E:=EN) lF ⟨g,0,K⟩ k n cap (by omega);have s2:=fu (E:=EN) lF W.heap.size k (n+1) G (by omega) (by omega);have s3:=fu (E:=EN) lF W.heap.size (k+1) (n+1) G (by omega) (by omega);have a1:=r1 27;have n1:=dK W.drew R1 67;have bl:W.drew.heap.size=W.heap.size:=rfl;rw [bl] at n1;have g1:dx (W.drew.alloc (X R1 67)) g cur 67:=dx.more (show dx W.drew g cur 67 from hg) _;have x1:dx (W.drew.alloc (X R1 67)) b (iD c).toArray 67:=dx.more (show dx W.drew b _ 67 from hx) _;have q2:=r2 (W.drew.alloc (X R1 67)) 3 (n+1-k) (G-k) n1 x1 rfl (by omega);have q3:=r3 ((W.drew.alloc (X R1 67)).setRow W.heap.size R2).drew 3 (n+1-(k+1)) (G-(k+1)) (n-k) (cap-k) (dx.set n1 R2) (dx.other g1 (by omega) R2) (by omega);have Q:=Lib.hid (show uZ B l k c (D (L ⟨g,0,K⟩) n cap) W (.returned (D (L ⟨W.heap.size,0,K⟩) (n+1) G)) (((W.drew.alloc (X R1 67)).setRow W.heap.size R2).drew.setRow W.heap.size R3) from ⟨_,rfl,by rw [hn]; exact ow _ B hB (dx.set (dx.set n1 R2) R3),below_setRow (below_setRow ((Y B W).drew.alloc hB _) hB _).drew hB _,fun j hj _=>(setRow_other _ W.heap.size j _ (by omega)).trans ((setRow_other _ W.heap.size j _ (by omega)).trans (Array.getElem?_push_lt hj |>.trans (Array.getElem?_eq_getElem hj).symm))⟩);have l1:l.length+1=n+1:=by rw [hn]
 rw [l1,<- hn] at a1;clear r1 r2 r3 ow hg ht hx g1 x1 n1 bl l1;change ∀ w,(O 27 (D (L ⟨g,0,K⟩) n cap) (L (Z ah k)) K K).run J w=.ok (D (L ⟨g,k * 7,K⟩) (n-k) (cap-k)) w at s0;change ∀ w,(O 27 (D (L ⟨g,0,K⟩) n cap) K (L (Z ah k)) K).run J w=.ok (D (L ⟨g,0,K⟩) k cap) w at s1;change ∀ w,(O 27 (D (L ⟨W.heap.size,0,K⟩) (n+1) G) (L (Z ah k)) K K).run J w=.ok (D (L ⟨W.heap.size,k * 7,K⟩) (n+1-k) (G-k)) w at s2;change ∀ w,(O 27 (D (L ⟨W.heap.size,0,K⟩) (n+1) G) (L (Z ah ((k:Int)+1))) K K).run J w=.ok (D (L ⟨W.heap.size,(k+1) * 7,K⟩) (n+1-(k+1)) (G-(k+1))) w at s3;change (ay #[27,3] 27 #[D (L ⟨g,0,K⟩) k cap,Z ah ((n:Int)+1-k)]).run J W=.ok (D (L ⟨W.heap.size,0,K⟩) (n+1) G) (W.drew.alloc (X R1 67)) at a1;change (V #[27,27] 3 #[D (L ⟨W.heap.size,k * 7,K⟩) (n+1-k) (G-k),D (L ⟨b,0,K⟩) 1 1]).run J (W.drew.alloc (X R1 67))=.ok (Z ah 1) ((W.drew.alloc (X R1 67)).setRow W.heap.size R2) at q2;change (V #[27,27] 3 #[D (L ⟨W.heap.size,(k+1) * 7,K⟩) (n+1-(k+1)) (G-(k+1)),D (L ⟨g,k * 7,K⟩) (n-k) (cap-k)]).run J ((W.drew.alloc (X R1 67)).setRow W.heap.size R2).drew=.ok (Z ah ((l.length-k:Nat):Int)) (((W.drew.alloc (X R1 67)).setRow W.heap.size R2).drew.setRow W.heap.size R3) at q3;have e1:((k:Int) == (n:Int))=false:=by rw [beq_eq_false_iff_ne]; omega
 have e2:decide ((cap:Int)<(n:Int)+1)=true:=by simp; omega
 have hGn:n+1<=G:=by omega
 clear hn;generalize W.heap.size=N at *;generalize W.drew.alloc (X R1 67)=W1 at *;generalize W1.setRow N R2=W2 at *;go_enter ak,aj;go_wp2_with (first | (at_builtin; refine fZ rfl _ _ 27 3 rfl rfl rfl a1 ?_) | (at_builtin; refine wpList_copy_run rfl _ _ 27 rfl rfl rfl q2 ?_) | fail);clear a1 q2 s0 s1 s2 s3;have hw1:IntKind.i64.wrap ((k:Int)+1)=(k:Int)+1:=by rw [au]; omega
 have hb1:(0:Int)<=(k:Int)+1:=by omega
 have hb0:(k:Int)+1<=(n:Int)+1:=by omega
 have htn:((k:Int)+1).toNat=k+1:=by omega
 have hb2:¬ (G=k+1):=by omega
 have hb3:(k:Int)<=(n:Int):=by omega
 have hb4:¬ (cap=k):=by omega
 have h81:n+1-(k+1)=n-k:=by omega
 rw [h81] at q3;clear h81
 go_region_law (refine fO rfl (.tmp 50) (.tmp 53) 27 rfl (v:=D (L ⟨N,(k+1) * 7,K⟩) (n-k) (G-(k+1))) (xv:=D (L ⟨g,k * 7,K⟩) (n-k) (cap-k)) (by simp [Act.eval,Act.put]) (by simp [Act.eval,Act.put]) q3 ?_)
 all_goals simp only [Exit.then]
 all_goals apply_assumption
 go_wp2;go_ret;exact Q.out
theorem sS (B:Nat) (v:Value) (l:List iT) (k:Nat) (c:iT) (b:Nat) (W:World) (ho:jy W B v l) (hx:dx W b (iD c).toArray 67) (hne:v.ownBlock≠L b) (hk:k<=l.length) (hl:l.length<=900) (hB:B<=W.heap.size) :
  Calls J 157 #[v,Z ah k,D (L ⟨b,0,K⟩) 1 1] W (uZ B l k c v W):=by
 rcases aA k l.length with h|h
 ·rcases eT ho with⟨_,h2⟩|⟨g,cap,cur,rfl,h1,h2,h3,h4,h5,h6⟩
  ·rw [h2] at h; simp at h
  ·rcases aA cap (l.length+1) with h7|h7
   ·exact zB B g _ cap cur l k c b W rfl h2 h4 h3 h6 hx h h7 hl hB
   ·exact wO B g _ cap cur l k c b W rfl h1 h2 h4 h5 h6 hx (fun e=>hne (by simp [Value.ownBlock,e])) h h7 hl
 ·obtain rfl:k=l.length:=by omega
  exact Bp B v l c b W ho hx hl hB
end Av
namespace Av
open Go.RowKit Go.Sort Rw YtghlpefopidlaaaGreat.Nm Pr Bk
theorem sj {α:Type} (l:List α) (k:Nat) (x:α):(eZ l k x).length=l.length+1:=by
 unfold eZ;simp only [List.length_append,List.length_cons,List.length_nil,List.length_take,List.length_drop];omega
end Av
namespace Bk
open Go.RowKit Go.Sort Rw YtghlpefopidlaaaGreat.Nm Pr
end Bk
namespace Av
open Go.RowKit Go.Sort Rw YtghlpefopidlaaaGreat.Nm Pr Bk
theorem FT {α β:Type} {E:Ek α} {F:Ek β} {W W':World} {B B':Nat} {v u:Value} {l:List β} {m:List α} (ho:Own F W B v l) (gr:W.grownBy W' v.ownBlock) (h:Own E W B' u m) (hne:(E.t == F.t)=false):Own E W' B' u m:=by
 rcases eT ho with⟨h1,_⟩|⟨g,c,cur,h1,_,h2,_⟩
 ·rw [h1] at gr;exact Bk.dI h ((Y _ _).grown gr (U _) (fun j hj=>by cases hj))
 ·rw [h1] at gr;exact (rP (b:=g) gr).own h h2 hne
theorem iQ {β:Type} {F:Ek β} {W W':World} {B k:Nat} {v:Value} {l:List β} {cs:Array Value} {t:TypeId} (ho:Own F W B v l) (gr:W.grownBy W' v.ownBlock) (h:dx W k cs t) (hne:(t == F.t)=false):dx W' k cs t:=by
 rcases eT ho with⟨h1,_⟩|⟨g,c,cur,h1,_,h2,_⟩
 ·rw [h1] at gr;exact h.on ((Y _ _).grown gr (U _) (fun j hj=>by cases hj))
 ·rw [h1] at gr;exact (rP (b:=g) gr).box h (jK h h2 hne)
end Av
end Go.Proofs.YtghlpefopidlaaaGreat
