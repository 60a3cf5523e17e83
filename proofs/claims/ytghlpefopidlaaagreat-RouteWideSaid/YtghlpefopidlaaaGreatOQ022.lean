/-
  slices.Insert of one. Conditions as told.
-/
import Derived.Test.YtghlpefopidlaaaGreatOQ016
import Derived.Test.YtghlpefopidlaaaGreatOQ009
import Derived.Test.YtghlpefopidlaaaGreatOQ015
import Derived.Test.YtghlpefopidlaaaGreatOQ012
set_option maxRecDepth 100000
set_option maxHeartbeats 64000000
open _root_.Bool renaming and_eq_true->aA,eq_iff_iff->aK,false->aN,true->aR
open _root_.Go renaming World->aB,Value->aI,Calls->aX
open Go.Builtin renaming copy_->aH,append_->aU
open Go.Ending renaming returned->aF
open Go.Instr renaming sliceAt->X
open Go.IntKind renaming i64->V,wrap_i64->aT
open Go.Lib renaming hid->D
open Go.Obj renaming cells->Z
open Go.Proofs.Tryz renaming prog->O,ntmps104->aM,ntmps170->aO,func104->aQ,func170->aS
open Go.RowKit.Below renaming refl->ay
open Go.Value renaming slice->J,int->ah,string->ak,pointer->bf
open Go.World renaming cell?_alloc_at->aD,cell?_alloc_lt->aL
open Go.World.ownsRow renaming stored->au,cellAt->aZ
open _root_.List renaming length_map->aj,getElem?_eq_getElem->aC,getElem?_eq_some_iff->aG,mem_append->aJ,find?_eq_none->aP,map_append->aV,length_set->aW
open _root_.Nat renaming le_refl->Y,lt_or_ge->aY
open _root_.Option renaming none->L,some->U
namespace Go.Proofs.YtghlpefopidlaaaGreat
namespace Av
open Go.RowKit Rw YtghlpefopidlaaaGreat.Nm Pr Bk
theorem Ki {W:aB} {b:Nat} {c:jD} (h:dx W b (cellsD c).toArray 36):CZ W (J (U ⟨b,0,L⟩) 1 1) [c] :=
 Or.inr ⟨⟨b,0,L⟩,1,rfl,by simp,by decide,mY h (by simp [ED])⟩
def uP (B:Nat) (l:List jD) (k:Nat) (c:jD) (vv:aI) (W:aB) (e:Ending) (w':aB):Prop:=∃ v',e=aF v'/\p9 w' B v' (l.take k++c::l.drop k)/\Below B W w'/\(∀ j,j<W.heap.size->U j≠vv.ownBlock->w'.heap[j]?=W.heap[j]?)
theorem AJ (B:Nat) (v:aI) (l:List jD) (c:jD) (b:Nat) (W:aB) (ho:p9 W B v l) (hx:dx W b (cellsD c).toArray 36) (hl:l.length<=900) (hB:B<=W.heap.size) :
  aX O 104 #[v,ah V (l.length:Nat),J (U ⟨b,0,L⟩) 1 1] W (uP B l l.length c v W):=by
 obtain⟨v',w',hr,ho2,hg⟩:=jO okD B ho (Ki hx) (by omega) (by simp) hB 25;have hr:(aU #[25,25] 25 #[v,J (U ⟨b,0,L⟩) 1 1]).run O W=.ok v' w':=hr;have Q:=D (show uP B l l.length c v W (aF v') w' from ⟨v',rfl,by rw [List.take_of_length_le (Y _),List.drop_of_length_le (Y _)]; exact ho2,(ay B W).grown hg hB (fun j hj=>(ho.lt j hj).1),fun j hj hne=>hg.block j hj hne⟩);obtain⟨sx,hs,_⟩:=tZ okD (Row.dB ho) l.length (Y _);have hs:∀ w,(X 25 v (U (ah V l.length)) L L).run O w=.ok sx w:=hs;obtain⟨ao,ac,rfl⟩:=(Row.dB ho).len;clear ho ho2 hg;generalize hn:l.length=n at *;clear hn;go_enter aQ,aM;go_wp2_with (first | (at_builtin; refine wpList_append_run rfl _ _ 25 rfl rfl rfl hr ?_) | fail);go_ret;exact Q.out
theorem Kj (w:aB) (g b k la lb cb:Nat) (cur cs:Array aI) (hb:dx w b cs 36) (hg:dx w g cur 36) (hne:b≠g) (h0:0<cur.size):(callFunc 140 #[J (U ⟨b,0,L⟩) la 1,J (U ⟨g,k,L⟩) lb cb]).run O w=.ok (.value (.bool aN)) w:=by
 rw [run_callFunc_extern Tryz.func140 (by kernel_rfl) (by kernel_rfl) (by kernel_rfl) (e:=Extern.SlicesOverlaps.overlaps #[25,25] #[4]) (by kernel_rfl),
  Lib.run_overlaps_apart w 25 4 36 Tryz.underlying25 4 Tryz.sizeOf36 ⟨b,0,L⟩ ⟨g,k,L⟩ la 1 lb cb hne 36 36 cs.size cur.size hb.shape hg.shape (by omega) (hb.fr 0) (hb.fr _)]
 rfl
theorem wM (B g n cap:Nat) (cur:Array aI) (l:List jD) (k:Nat) (c:jD) (b:Nat) (W:aB) (hn:n=l.length) (hBg:B<=g) (hg:dx W g cur 36) (hcm:cap<=maxLen) (hsz:cur.size=cap * 4) (ht:cur.toList.take (n * 4)=flat ED l) (hx:dx W b (cellsD c).toArray 36) (hne:b≠g) (hk:k<n) (hroom:n+1<=cap) (hl:n<=900) :
  aX O 104 #[J (U ⟨g,0,L⟩) n cap,ah V k,J (U ⟨b,0,L⟩) 1 1] W (uP B l k c (J (U ⟨g,0,L⟩) n cap) W):=by
 obtain⟨R1,R2,r1,r2,ow⟩:=mh (E:=ED) (l:=l) (k:=k) (cap:=cap) (cur:=cur) (cs:=(cellsD c).toArray) (c:=c) okD (by omega) (by omega) hsz (by rw [<- hn]; exact ht) g b hne;have hov:=fun lb cb=>Kj W g b ((k+1) * 4) 1 lb cb cur (cellsD c).toArray hx hg hne (by omega);have s0:=fu (E:=ED) okD g k n cap (by omega) (by omega);have s1:=iB (E:=ED) okD ⟨g,0,L⟩ (n+1) n cap (by omega);have s2:=fu (E:=ED) okD g (k+1) (n+1) cap (by omega) (by omega);have s3:=fu (E:=ED) okD g k (n+1) cap (by omega) (by omega);have q1:=r1 W.drew 3 (n+1-(k+1)) (cap-(k+1)) (n+1-k) (cap-k) hg (by omega);have q2:=r2 (W.drew.setRow g R1) 3 (n+1-k) (cap-k) (dx.set (show dx W.drew g cur 36 from hg) R1) (dx.other (show dx W.drew b _ 36 from hx) hne R1) rfl (by omega);have Q:=D (show uP B l k c (J (U ⟨g,0,L⟩) n cap) W (aF (J (U ⟨g,0,L⟩) (n+1) cap)) ((W.drew.setRow g R1).setRow g R2) from ⟨_,rfl,by rw [hn]; exact ow _ B hBg hcm (dx.set (dx.set (show dx W.drew g cur 36 from hg) R1) R2),below_setRow (below_setRow (ay B W).drew hBg _) hBg _,fun j hj hne=>(setRow_other _ g j _ (fun e=>hne (by rw [e]; rfl))).trans (setRow_other _ g j _ (fun e=>hne (by rw [e]; rfl)))⟩);clear r1 r2 ow hg ht hx hsz hBg hcm;change ∀ w,(X 25 (J (U ⟨g,0,L⟩) n cap) (U (ah V k)) L L).run O w=.ok (J (U ⟨g,k * 4,L⟩) (n-k) (cap-k)) w at s0;change ∀ w,(X 25 (J (U ⟨g,0,L⟩) n cap) L (U (ah V ((n:Int)+1))) L).run O w=.ok (J (U ⟨g,0,L⟩) (n+1) cap) w at s1;change ∀ w,(X 25 (J (U ⟨g,0,L⟩) (n+1) cap) (U (ah V ((k:Int)+1))) L L).run O w=.ok (J (U ⟨g,(k+1) * 4,L⟩) (n+1-(k+1)) (cap-(k+1))) w at s2;change ∀ w,(X 25 (J (U ⟨g,0,L⟩) (n+1) cap) (U (ah V k)) L L).run O w=.ok (J (U ⟨g,k * 4,L⟩) (n+1-k) (cap-k)) w at s3;have e1:((k:Int) == (n:Int))=aN:=by rw [beq_eq_false_iff_ne]; omega
 have e2:decide ((cap:Int)<(n:Int)+1)=aN:=by simp; omega
 change (aH #[25,25] 3 #[J (U ⟨g,(k+1) * 4,L⟩) (n+1-(k+1)) (cap-(k+1)),J (U ⟨g,k * 4,L⟩) (n+1-k) (cap-k)]).run O W.drew=.ok (ah V ((l.length-k:Nat):Int)) (W.drew.setRow g R1) at q1;change (aH #[25,25] 3 #[J (U ⟨g,k * 4,L⟩) (n+1-k) (cap-k),J (U ⟨b,0,L⟩) 1 1]).run O (W.drew.setRow g R1)=.ok (ah V 1) ((W.drew.setRow g R1).setRow g R2) at q2;clear hn;go_enter aQ,aM;go_wp2_with (first | (simp only [hov]) | fail);clear hov s0 s1 s2 s3;have hw1:IntKind.i64.wrap ((k:Int)+1)=(k:Int)+1:=by rw [aT]; omega
 have hb1:(0:Int)<=(k:Int)+1:=by omega
 have hb0:(k:Int)+1<=(n:Int)+1:=by omega
 have htn:((k:Int)+1).toNat=k+1:=by omega
 have hb2:¬ (cap=k+1):=by omega
 have hb3:(k:Int)<=(n:Int)+1:=by omega
 have hb4:¬ (cap=k):=by omega
 have h81:n+1-(k+1)=n-k:=by omega
 rw [h81] at q1;clear h81
 go_region_law (refine fO rfl (.tmp 73) (.tmp 76) 25 rfl (v:=J (U ⟨g,(k+1) * 4,L⟩) (n-k) (cap-(k+1))) (xv:=J (U ⟨g,k * 4,L⟩) (n+1-k) (cap-k)) (by simp [Act.eval,Act.put]) (by simp [Act.eval,Act.put]) q1 ?_)
 all_goals simp only [Exit.then]
 all_goals apply_assumption
 clear q1 hw1 hb1 hb0 htn hb2 hb3 hb4;have s3:=fu (E:=ED) okD g k (n+1) cap (by omega) (by omega);change ∀ w,(X 25 (J (U ⟨g,0,L⟩) (n+1) cap) (U (ah V k)) L L).run O w=.ok (J (U ⟨g,k * 4,L⟩) (n+1-k) (cap-k)) w at s3;go_wp2_with (first | (at_builtin; refine wpList_copy_run rfl _ _ 25 rfl rfl rfl q2 ?_) | fail);go_ret;exact Q.out
theorem zm (B g n cap:Nat) (cur:Array aI) (l:List jD) (k:Nat) (c:jD) (b:Nat) (W:aB) (hn:n=l.length) (hg:dx W g cur 36) (hcm:cap<=maxLen) (hnc:n<=cap) (ht:cur.toList.take (n * 4)=flat ED l) (hx:dx W b (cellsD c).toArray 36) (hk:k<n) (hroom:cap<n+1) (hl:n<=900) (hB:B<=W.heap.size) :
  aX O 104 #[J (U ⟨g,0,L⟩) n cap,ah V k,J (U ⟨b,0,L⟩) 1 1] W (uP B l k c (J (U ⟨g,0,L⟩) n cap) W):=by
 have hgw:=hg.lt;have hbw:=hx.lt;obtain⟨G,R1,R2,R3,hG1,hG2,r1,r2,r3,ow⟩:=nU (E:=ED) (l:=l) (k:=k) (cap:=cap) (cur:=cur) (cs:=(cellsD c).toArray) (c:=c) okD 3 Tryz.underlying3 (by omega) (by omega) (by omega) (by omega) (by rw [<- hn]; exact ht) W g b hg hbw;unfold maxLen at hcm hG2;have s0:=fu (E:=ED) okD g k n cap (by omega) (by omega);have s1:=iB (E:=ED) okD ⟨g,0,L⟩ k n cap (by omega);have s2:=fu (E:=ED) okD W.heap.size k (n+1) G (by omega) (by omega);have s3:=fu (E:=ED) okD W.heap.size (k+1) (n+1) G (by omega) (by omega);have a1:=r1 25;have n1:=dK W.drew R1 36;have bl:W.drew.heap.size=W.heap.size:=rfl;rw [bl] at n1;have g1:dx (W.drew.alloc (Z R1 36)) g cur 36:=dx.more (show dx W.drew g cur 36 from hg) _;have x1:dx (W.drew.alloc (Z R1 36)) b (cellsD c).toArray 36:=dx.more (show dx W.drew b _ 36 from hx) _;have q2:=r2 (W.drew.alloc (Z R1 36)) 3 (n+1-k) (G-k) n1 x1 rfl (by omega);have q3:=r3 ((W.drew.alloc (Z R1 36)).setRow W.heap.size R2).drew 3 (n+1-(k+1)) (G-(k+1)) (n-k) (cap-k) (dx.set n1 R2) (dx.other g1 (by omega) R2) (by omega);have Q:=D (show uP B l k c (J (U ⟨g,0,L⟩) n cap) W (aF (J (U ⟨W.heap.size,0,L⟩) (n+1) G)) (((W.drew.alloc (Z R1 36)).setRow W.heap.size R2).drew.setRow W.heap.size R3) from ⟨_,rfl,by rw [hn]; exact ow _ B hB (dx.set (dx.set n1 R2) R3),below_setRow (below_setRow ((ay B W).drew.alloc hB _) hB _).drew hB _,fun j hj _=>(setRow_other _ W.heap.size j _ (by omega)).trans ((setRow_other _ W.heap.size j _ (by omega)).trans (Array.getElem?_push_lt hj |>.trans (Array.getElem?_eq_getElem hj).symm))⟩);have l1:l.length+1=n+1:=by rw [hn]
 rw [l1,<- hn] at a1;clear r1 r2 r3 ow hg ht hx g1 x1 n1 bl l1;change ∀ w,(X 25 (J (U ⟨g,0,L⟩) n cap) (U (ah V k)) L L).run O w=.ok (J (U ⟨g,k * 4,L⟩) (n-k) (cap-k)) w at s0;change ∀ w,(X 25 (J (U ⟨g,0,L⟩) n cap) L (U (ah V k)) L).run O w=.ok (J (U ⟨g,0,L⟩) k cap) w at s1;change ∀ w,(X 25 (J (U ⟨W.heap.size,0,L⟩) (n+1) G) (U (ah V k)) L L).run O w=.ok (J (U ⟨W.heap.size,k * 4,L⟩) (n+1-k) (G-k)) w at s2;change ∀ w,(X 25 (J (U ⟨W.heap.size,0,L⟩) (n+1) G) (U (ah V ((k:Int)+1))) L L).run O w=.ok (J (U ⟨W.heap.size,(k+1) * 4,L⟩) (n+1-(k+1)) (G-(k+1))) w at s3;change (aU #[25,3] 25 #[J (U ⟨g,0,L⟩) k cap,ah V ((n:Int)+1-k)]).run O W=.ok (J (U ⟨W.heap.size,0,L⟩) (n+1) G) (W.drew.alloc (Z R1 36)) at a1;change (aH #[25,25] 3 #[J (U ⟨W.heap.size,k * 4,L⟩) (n+1-k) (G-k),J (U ⟨b,0,L⟩) 1 1]).run O (W.drew.alloc (Z R1 36))=.ok (ah V 1) ((W.drew.alloc (Z R1 36)).setRow W.heap.size R2) at q2;change (aH #[25,25] 3 #[J (U ⟨W.heap.size,(k+1) * 4,L⟩) (n+1-(k+1)) (G-(k+1)),J (U ⟨g,k * 4,L⟩) (n-k) (cap-k)]).run O ((W.drew.alloc (Z R1 36)).setRow W.heap.size R2).drew=.ok (ah V ((l.length-k:Nat):Int)) (((W.drew.alloc (Z R1 36)).setRow W.heap.size R2).drew.setRow W.heap.size R3) at q3;have e1:((k:Int) == (n:Int))=aN:=by rw [beq_eq_false_iff_ne]; omega
 have e2:decide ((cap:Int)<(n:Int)+1)=aR:=by simp; omega
 have hGn:n+1<=G:=by omega
 clear hn;generalize W.heap.size=N at *;generalize W.drew.alloc (Z R1 36)=W1 at *;generalize W1.setRow N R2=W2 at *;go_enter aQ,aM;go_wp2_with (first | (at_builtin; refine fZ rfl _ _ 25 3 rfl rfl rfl a1 ?_) | (at_builtin; refine wpList_copy_run rfl _ _ 25 rfl rfl rfl q2 ?_) | fail);clear a1 q2 s0 s1 s2 s3;have hw1:IntKind.i64.wrap ((k:Int)+1)=(k:Int)+1:=by rw [aT]; omega
 have hb1:(0:Int)<=(k:Int)+1:=by omega
 have hb0:(k:Int)+1<=(n:Int)+1:=by omega
 have htn:((k:Int)+1).toNat=k+1:=by omega
 have hb2:¬ (G=k+1):=by omega
 have hb3:(k:Int)<=(n:Int):=by omega
 have hb4:¬ (cap=k):=by omega
 have h81:n+1-(k+1)=n-k:=by omega
 rw [h81] at q3;clear h81
 go_region_law (refine fO rfl (.tmp 50) (.tmp 53) 25 rfl (v:=J (U ⟨N,(k+1) * 4,L⟩) (n-k) (G-(k+1))) (xv:=J (U ⟨g,k * 4,L⟩) (n-k) (cap-k)) (by simp [Act.eval,Act.put]) (by simp [Act.eval,Act.put]) q3 ?_)
 all_goals simp only [Exit.then]
 all_goals apply_assumption
 go_wp2;go_ret;exact Q.out
theorem AO (B:Nat) (v:aI) (l:List jD) (k:Nat) (c:jD) (b:Nat) (W:aB) (ho:p9 W B v l) (hx:dx W b (cellsD c).toArray 36) (hne:v.ownBlock≠U b) (hk:k<=l.length) (hl:l.length<=900) (hB:B<=W.heap.size) :
  aX O 104 #[v,ah V k,J (U ⟨b,0,L⟩) 1 1] W (uP B l k c v W):=by
 rcases aY k l.length with h|h
 ·rcases eT ho with⟨_,h2⟩|⟨g,cap,cur,rfl,h1,h2,h3,h4,h5,h6⟩
  ·rw [h2] at h; simp at h
  ·rcases aY cap (l.length+1) with h7|h7
   ·exact zm B g _ cap cur l k c b W rfl h2 h4 h3 h6 hx h h7 hl hB
   ·exact wM B g _ cap cur l k c b W rfl h1 h2 h4 h5 h6 hx (fun e=>hne (by simp [Value.ownBlock,e])) h h7 hl
 ·obtain rfl:k=l.length:=by omega
  exact AJ B v l c b W ho hx hl hB
end Av
namespace Pr
open Go.RowKit Pu Rw Va Kp In
def jw (has vals:List Int):Nat->List Cn
 | 0=>[]
 | i+1=>if i<has.length/\odd (has.getD i 0)=aR/\(jw has vals i).length<5 then jw has vals i++[(nm i,oq (nZ vals i))] else jw has vals i
theorem Fv (has vals:List Int):∀ k,(jw has vals k).length<=k
 | 0=>Y _
 | k+1=>by
  have h:=Fv has vals k;simp only [jw]
  split
  ·simp; omega
  ·omega
theorem AP (has vals:List Int):∀ k,(jw has vals k).length<=5
 | 0=>by simp [jw]
 | k+1=>by
  have h:=AP has vals k;simp only [jw]
  split
  ·rename_i hc; simp; omega
  ·exact h
theorem oP (has vals:List Int):∀ k,∀ x∈jw has vals k,∃ i,i<k/\x.1=nm i
 | 0,x,h=>by simp [jw] at h
 | k+1,x,h=>by
  simp only [jw] at h
  split at h
  ·rcases aJ.1 h with h|h
   ·obtain⟨i,h1,h2⟩:=oP has vals k x h;exact⟨i,by omega,h2⟩
   ·simp at h;exact⟨k,by omega,by rw [h]⟩
  ·obtain⟨i,h1,h2⟩:=oP has vals k x h;exact⟨i,by omega,h2⟩
theorem uQ (has vals:List Int):∀ k,∀ x∈jw has vals k,fD x.2=aR
 | 0,x,h=>by simp [jw] at h
 | k+1,x,h=>by
  simp only [jw] at h
  split at h
  ·rcases aJ.1 h with h|h
   ·exact uQ has vals k x h
   ·simp at h;rw [h]; exact Hl _
  ·exact uQ has vals k x h
theorem NQ (i j:Nat) (h:i<j) (hj:j<7):Op.bytesLess (nm i).toList (nm j).toList=aR:=by
 rw [ByteArray.toList_eq,ByteArray.toList_eq];have:∀ j:Fin 7,∀ i:Fin 7,i.val<j.val->Op.bytesLess (nm i.val).data.toList (nm j.val).data.toList=aR:=by decide
 exact this ⟨j,hj⟩ ⟨i,by omega⟩ h
theorem AQ (has vals:List Int):∀ k,k<=7->gU (jw has vals k)
 | 0,_=>by simp [jw,gU]
 | k+1,hk=>by
  have h:=AQ has vals k (by omega);simp only [jw]
  split
  ·refine List.pairwise_append.2 ⟨h,List.pairwise_singleton _ _,fun x hx y hy=>?_⟩;obtain⟨i,h1,h2⟩:=oP has vals k x hx;simp at hy;rw [hy,h2];exact NQ i k h1 (by omega)
  ·exact h
theorem Kk (w:aB) (c:C5):gq (w.alloc (Z #[ak c.1,ah V c.2.1,ah V c.2.2.1,ah V c.2.2.2.1,ak c.2.2.2.2] 91)) (J (U ⟨w.heap.size,0,L⟩) 1 1) [c] :=
 Row.dB (mX sP w [c] 1 rfl (by simp) _ rfl)
theorem Kl (hv vv:aI) (has vals:List Int) (w:aB) (hh:jY w hv has) (hw:jY w vv vals) (lh:has.length<=maxLen) (lv:vals.length<=maxLen) :
  aX O 15 #[.agg #[hv,vv]] w fun e w'=>∃ v,e=aF v/\ig w' w.heap.size v ((jw has vals 7).map r5)/\Below w.heap.size w w':=by
 have HH:=D hh;have HW:=D hw;have LH:=D lh;have LV:=D lv;clear hh hw lh lv;go_enter Tryz.func15,Tryz.ntmps15;go_wp2_with fail;refine (Hg _).mono ?_;rintro e1 w1 ⟨rfl,rfl⟩;go_wp2
 go_loopw [3,8] (fun lv i wr=>∃ k:Nat,k<=7/\i=ah V k/\ig wr (w.heap.size+2) lv ((jw has vals k).map r5) /\
  Below (w.heap.size+2) ((w.alloc (Z #[hv,vv] 52)).alloc (Z qA 9)) wr) (fun _ i _=>7-(intOf i).toNat)
 case atStart=>exact⟨0,by omega,rfl,iH _ _,ay _ _⟩
 case round =>
  obtain⟨k,hk,rfl,hown,hb⟩:=hrel;have HO:=D hown;have HB:=D hb;have T0:Below w.heap.size w ((w.alloc (Z #[hv,vv] 52)).alloc (Z qA 9)):=((ay _ _).alloc (Y _) _).alloc (by simp) _;have BW:=D (T0.trans (hb.mono (by omega)));have hsz:w.heap.size+2<=wr.heap.size:=by have:=hb.size; simp at this; omega
  clear T0;obtain⟨ro,aaW,hrl⟩:=(Row.dB hown).len;rw [aj] at hrl;have hl5:=Fv has vals k;by_cases h7:k<7
  ·have n0:wr.cell? ⟨w.heap.size+1,k,L⟩=U (ak (nm k)):=by
    rw [hb.cell (p:=⟨w.heap.size+1,k,L⟩) (by simp),aD _ _ _ _ (by simp)]; exact Ut k h7
   have b0:wr.cell? ⟨w.heap.size,0,L⟩=U hv:=by
    rw [hb.cell (p:=⟨w.heap.size,0,L⟩) (by simp),aL _ _ _ (by simp),aD _ _ _ _ rfl]; rfl
   have b1:wr.cell? ⟨w.heap.size,1,L⟩=U vv:=by
    rw [hb.cell (p:=⟨w.heap.size,1,L⟩) (by simp),aL _ _ _ (by simp),aD _ _ _ _ rfl]; rfl
   have IH:=D (HH.out.on BW.out);obtain⟨ao,aaX,hsh⟩:=HH.out.shape;clear hb hown;subst hsh;subst hrl;have hkk:(k:Int)<7:=by omega
   by_cases h1:k<has.length
   ·obtain⟨y,hy⟩:∃ y,has[k]?=U y:=⟨_,aC h1⟩;have hg:has.getD k 0=y:=by rw [List.getD_eq_getElem?_getD,hy]; rfl
    obtain⟨_,p,_,hix,hpc⟩:=IH.out.at_ k y hy;cases ho:odd y
    ·have T:=D (show jw has vals (k+1)=jw has vals k by simp only [jw]; rw [if_neg]; rintro⟨_,h2,_⟩; rw [hg,ho] at h2; cases h2);have hodd:(bits BinOp.and V y 1 == 1)=aN:=ho;clear ho hy hg;go_wp2
     go_roundw
     case rel=>exact⟨k+1,by omega,by go_num,by rw [T.out]; exact HO.out,HB.out⟩
     case measure=>simp [intOf]; omega
    ·have hodd:(bits BinOp.and V y 1 == 1)=aR:=ho;by_cases h5:(jw has vals k).length<5
     ·have T:=D (show (jw has vals (k+1)).map r5=(jw has vals k).map r5++[r5 (nm k,oq (nZ vals k))] by simp only [jw]; rw [if_pos ⟨h1,by rw [hg,ho],h5⟩,aV]; rfl);have PK:=D (fun (W:aB) (hW:Below w.heap.size w W)=>J9 vv vals k W (HW.out.on hW) LV.out (by omega));have bd:=Ka HW.out k;have KV:=D (fun W=>uM (nm k) (nZ vals k) W bd.1 bd.2);clear ho hy hg bd;go_wp2_with fail;refine (PK.out _ BW.out).mono ?_;rintro e1 w1 ⟨rfl,rfl⟩;go_wp2_with fail;refine (KV.out _).mono ?_;rintro e2 w2 ⟨rfl,hb2⟩;have B2:=D hb2;have O2:=D (dI HO.out hb2);have hs2:=hb2.size;clear hb2;generalize r5 (nm k,oq (nZ vals k))=c at T ⊢;have Zx:=D (O2.out.alloc (Z #[ak c.1,ah V c.2.1,ah V c.2.2.1,ah V c.2.2.2.1,ak c.2.2.2.2] 91));obtain⟨v3,w3,r3,o3,g3⟩:=jO sP (w.heap.size+2) Zx.out (Kk w2 c) (by simp; omega) (by simp) (by simp; omega) 34;have O3:=D o3;have hbel:Below (w.heap.size+2) wr w3:=((B2.out.mono hsz).alloc (by omega) _).grown g3 (by simp; omega) (fun j hj=>(Zx.out.lt j hj).1);have B3:=D (HB.out.trans hbel);clear o3 g3 hbel;go_wp2_with (first | (at_builtin; refine wpList_append_run rfl _ _ 34 rfl rfl rfl r3 ?_) | fail);clear r3;go_wp2
      go_roundw
      case rel=>exact⟨k+1,by omega,by go_num,by rw [T.out]; exact O3.out,B3.out⟩
      case measure=>simp [intOf]; omega
     ·have T:=D (show jw has vals (k+1)=jw has vals k by simp only [jw]; rw [if_neg]; rintro⟨_,_,h2⟩; exact h5 h2);clear ho hy hg;go_wp2
      go_roundw
      case rel=>exact⟨k+1,by omega,by go_num,by rw [T.out]; exact HO.out,HB.out⟩
      case measure=>simp [intOf]; omega
   ·have T:=D (show jw has vals (k+1)=jw has vals k by simp only [jw]; rw [if_neg]; rintro⟨h2,_⟩; exact h1 h2);go_wp2
    go_roundw
    case rel=>exact⟨k+1,by omega,by go_num,by rw [T.out]; exact HO.out,HB.out⟩
    case measure=>simp [intOf]; omega
  ·obtain rfl:k=7:=by omega
   clear hb hown;go_wp2;go_ret;exact⟨_,rfl,JB (by omega) HO.out,BW.out⟩
def Dt (c:Cn):Prop:=c.1.size<=100/\(kT c.2).size<=100/\(-9223372036854775808<=lN c.2/\lN c.2<=9223372036854775807)/\(-9223372036854775808<=lQ c.2/\lQ c.2<=9223372036854775807)
def Km (l:List Cn):Prop:=l.length<=100/\∀ c∈l,Dt c
structure NF (l:List Cn):Prop where
 rise:gU l
 five:l.length<=5
 good:∀ c∈l,pF c=aR
 small:∀ c∈l,Dt c
theorem NF.fD {l:List Cn} (h:NF l):∀ c∈l,Pr.fD c.2=aR:=fun c hc=>by
 have:=h.good c hc;simp only [pF,aA] at this;exact this.2
theorem Kn (i:Nat) (h:i<7):ko (nm i)=aR:=by
 match i,h with
 | 0,_=>decide
 | 1,_=>decide
 | 2,_=>decide
 | 3,_=>decide
 | 4,_=>decide
 | 5,_=>decide
 | 6,_=>decide
theorem NR (i:Nat):(nm i).size=1:=rfl
theorem Ko (n:Int):(kT (oq n)).size<=100/\(-9223372036854775808<=lN (oq n)/\lN (oq n)<=9223372036854775807)/\(-9223372036854775808<=lQ (oq n)/\lQ (oq n)<=9223372036854775807):=by
 have h1:=Wi.jm (n.tdiv 4) 0 9 (by omega);have h2:=Wi.jm (n.tdiv 40) 0 9 (by omega);have ht:(TD n).size<=3:=z8 _;unfold oq Tz
 split
 ·refine⟨by show (0:Nat)<=100; omega,?_,?_⟩ <;> simp only [lN,lQ] <;> omega
 ·split
  ·refine⟨by show (TD n).size<=100; omega,?_,?_⟩ <;> simp only [lN,lQ] <;> omega
  ·refine⟨by show (TD n).size<=100; omega,?_,?_⟩ <;> simp only [lN,lQ] <;> omega
theorem rJ (has vals:List Int):∀ k,∀ x∈jw has vals k,Dt x
 | 0,x,h=>by simp [jw] at h
 | k+1,x,h=>by
  simp only [jw] at h
  split at h
  ·rcases aJ.1 h with h|h
   ·exact rJ has vals k x h
   ·simp at h;rw [h];exact⟨by show (nm k).size<=100; rw [NR]; omega,Ko _⟩
  ·exact rJ has vals k x h
theorem Kq (has vals:List Int):NF (jw has vals 7) :=
 ⟨AQ has vals 7 (Y _),AP has vals 7,fun c hc=>by
  obtain⟨i,h1,h2⟩:=oP has vals 7 c hc;simp only [pF,aA];exact⟨by rw [h2]; exact Kn i h1,uQ has vals 7 c hc⟩,rJ has vals 7⟩
theorem Ru {a b:Cn} (h:r5 a=r5 b):a=b:=by
 obtain⟨n,a⟩:=a;obtain⟨m,b⟩:=b;simp only [r5,Prod.mk.injEq] at h;obtain⟨rfl,h1,h2,h3,h4⟩:=h;cases a <;> cases b <;> simp [kN,lN,lQ,kT] at h1 h2 h3 h4 <;> simp [*]
end Pr
namespace Rl
open Go.RowKit Pu Pr
def Na (p:List Cn) (n:ByteArray):Option Cn:=p.find? fun c=>decide (c.1=n)
theorem Kr {p:List Cn} {n:ByteArray} {y:Cn} (h:Na p n=U y):y∈p/\y.1=n:=⟨List.mem_of_find?_eq_some h,by simpa using List.find?_some h⟩
theorem UJ {p:List Cn} {n:ByteArray} {k:Nat} {y:Cn} (hk:p[k]?=U y) (he:y.1=n) (hn:∀ (j:Nat) (z:Cn),j<k->p[j]?=U z->z.1≠n):Na p n=U y:=by
 unfold Na;rw [List.find?_eq_some_iff_getElem];obtain⟨hlt,hy⟩:=aG.1 hk;refine⟨by simpa using he,k,hlt,hy,fun j hj=>?_⟩;have:=hn j p[j] hj (aC (by omega));simpa using this
theorem NS {p:List Cn} {n:ByteArray} (hn:∀ (j:Nat) (z:Cn),j<p.length->p[j]?=U z->z.1≠n):Na p n=L:=by
 unfold Na;rw [aP];intro x hx;obtain⟨j,hj,e⟩:=List.getElem_of_mem hx;have:=hn j x hj (by rw [aC hj,e]);simpa using this
def Du (b:List Cn) (x:Cn):Bool:=match Na b x.1 with
 | some y=>iU y.2 x.2
 | none=>aN
theorem Hw {a b:List Cn} (hb:gU b):qx a b=a.all (Du b):=by
 unfold qx
 congr 1
 funext x
 unfold Du;cases hf:Na b x.1 with
 | none =>
  rw [List.any_eq_false];intro y hy;have:=aP.1 hf y hy;simp only [decide_eq_true_eq] at this;simp [this]
 | some y =>
  obtain⟨h1,h2⟩:=Kr hf;rw [aK,List.any_eq_true];constructor
  ·rintro⟨z,hz,h3⟩;simp only [aA,decide_eq_true_eq] at h3;rw [Ud hb h1 hz (h2.trans h3.1.symm)];exact h3.2
  ·intro h3;exact⟨y,h1,by simp [h2,h3]⟩
theorem Dv {n:ByteArray} {c d k:Kd} (hc:fD c=aR) (hd:fD d=aR) (h:fE c d=U k):JE (r5 (n,k)) (r5 (n,d))=iU d c:=by
 obtain⟨k1,k2⟩:=wV c d k hc hd h;rw [aK,JF];constructor
 ·intro e;have e2:=Ru e;obtain rfl:k=d:=congrArg Prod.snd e2;exact wH k c hd fun v hv=>by rw [k2,aA] at hv; exact hv.1
 ·intro hi;have:k=d:=CJ k d k1 hd fun v=>by
   rw [k2,aK,aA];exact⟨fun h=>h.2,fun h=>⟨pG d c hi v h,h⟩⟩
  rw [this]
theorem Dw {c d:Kd} (hd:fD d=aR) (h:fE c d=L):iU d c=aN:=by
 rw [Bool.eq_false_iff];intro hi;obtain⟨v,hv⟩:=ug d hd;have:=wW c d h v;rw [hv,pG d c hi v hv] at this;cases this
/-! ### samples -/
/-! ### both together -/
end Rl
namespace Pr
open Go.RowKit Go.Sort Pu Rw Va
def jT (m:List Cn) (c:Cn):Except Int (List Cn):=match jX m c with
 | none=>.error 5
 | some m'=>if 5<m'.length then .error 7 else .ok m'
def Kt (B:Nat) (r:Except Int (List Cn)) (W:aB) (e:Ending) (w':aB):Prop:=Below B W w'/\(match r with
 | .ok m'=>∃ v',e=aF (.tuple #[v',.nilIface])/\ig w' B v' (m'.map r5)
 | .error k=>e=aF (.tuple #[J L 0 0,.iface 211 (ah V k)]))
theorem Hy {m:List Cn} {c:Cn} (h:jH m c.1=aN) (h5:m.length=5):jT m c=.error 7:=by
 unfold jT;rw [EZ h];have:=tK m c.1;simp only;rw [if_pos (by simp; omega)]
theorem Hz {m:List Cn} {c:Cn} (h:jH m c.1=aN) (h5:m.length<5):jT m c=.ok (m.take (jv m c.1)++c::m.drop (jv m c.1)):=by
 unfold jT;rw [EZ h];have:=tK m c.1;simp only;rw [if_neg (by simp; omega)]
theorem xM:∀ (l:List C5) (k:Nat) (x:C5),k<l.length->flat EC (l.set k x)=((((( flat EC l).set (k * 5) (ak x.1)).set (k * 5+1) (ah V x.2.1)).set (k * 5+2) (ah V x.2.2.1)).set (k * 5+3) (ah V x.2.2.2.1)).set (k * 5+4) (ak x.2.2.2.2)
 | [],k,x,h=>by simp at h
 | y::r,0,x,_=>by simp [flat,EC,cells5]
 | y::r,k+1,x,h=>by
  have h2:=xM r k x (by simpa using h);have e:∀ j u (zs:List aI),(cells5 y++zs).set (5+j) u=cells5 y++zs.set j u:=fun j u zs=>by simp [cells5,Nat.add_comm 5 j]
  simp only [List.set_cons_succ,flat,h2];show cells5 y++_=_;rw [show (k+1) * 5=5+k * 5 by omega,show 5+k * 5+1=5+(k * 5+1) by omega,show 5+k * 5+2=5+(k * 5+2) by omega,show 5+k * 5+3=5+(k * 5+3) by omega,show 5+k * 5+4=5+(k * 5+4) by omega];show _=((((( cells5 y++flat EC r).set _ _).set _ _).set _ _).set _ _).set _ _;rw [e,e,e,e,e]
theorem H9 {W:aB} {B g n cap k:Nat} {l:List C5} {x:C5} (h:ig W B (J (U ⟨g,0,L⟩) n cap) l) (hn:n=l.length) (hk:k<n) :
  ig (((((W.setCell ⟨g,k * 5,L⟩ (ak x.1)).setCell ⟨g,k * 5+1,L⟩ (ah V x.2.1)).setCell ⟨g,k * 5+2,L⟩ (ah V x.2.2.1)).setCell ⟨g,k * 5+3,L⟩ (ah V x.2.2.2.1)).setCell ⟨g,k * 5+4,L⟩ (ak x.2.2.2.2)) B (J (U ⟨g,0,L⟩) n cap) (l.set k x):=by
 subst hn;have o1:=(au h (k * 5) (ak x.1)).1;have o2:=(au o1 (k * 5+1) (ah V x.2.1)).1;have o3:=(au o2 (k * 5+2) (ah V x.2.2.1)).1;have o4:=(au o3 (k * 5+3) (ah V x.2.2.2.1)).1;have o5:=(au o4 (k * 5+4) (ak x.2.2.2.2)).1;rw [<- xM l k x hk] at o5;show World.ownsRow _ _ _ _ _ (l.set k x).length _;rw [aW];exact o5
theorem zn {B:Nat} {W w:aB} (h:Below B W w) (g:Nat) (hB:B<=g) (o:Nat) (v0 v1 v2 v3 v4:aI):Below B W (((((w.setCell ⟨g,o,L⟩ v0).setCell ⟨g,o+1,L⟩ v1).setCell ⟨g,o+2,L⟩ v2).setCell ⟨g,o+3,L⟩ v3).setCell ⟨g,o+4,L⟩ v4) :=
 ((((h.setCell hB _).setCell hB _).setCell hB _).setCell hB _).setCell hB _
theorem rM {W:aB} {b:Nat} {z:C5} (h:dx W b (cells5 z).toArray 91) (x:C5):dx (((((W.setCell ⟨b,0,L⟩ (ak x.1)).setCell ⟨b,1,L⟩ (ah V x.2.1)).setCell ⟨b,2,L⟩ (ah V x.2.2.1)).setCell ⟨b,3,L⟩ (ah V x.2.2.2.1)).setCell ⟨b,4,L⟩ (ak x.2.2.2.2)) b (cells5 x).toArray 91:=by
 have h1:=heap_setCell_same W b 0 _ 91 (ak x.1) h;have h2:=heap_setCell_same _ b 1 _ 91 (ah V x.2.1) h1;have h3:=heap_setCell_same _ b 2 _ 91 (ah V x.2.2.1) h2;have h4:=heap_setCell_same _ b 3 _ 91 (ah V x.2.2.2.1) h3;have h5:=heap_setCell_same _ b 4 _ 91 (ak x.2.2.2.2) h4;unfold dx;rw [h5];simp [cells5]
theorem NT {W:aB} {B:Nat} {v:aI} {l:List C5} (h:ig W B v l) {b:Nat} (hb:W.heap.size<=b):v.ownBlock≠U b:=by
 intro e;have:=(h.lt b e).2;omega
theorem Ku (B:Nat) (v:aI) (m:List Cn) (c:Cn) (W:aB) (ho:ig W B v (m.map r5)) (hr:gU m) (h5:m.length<=5) (hB:B<=W.heap.size) (ht:jH m c.1=aN) :
  aX O 170 #[v,cv (r5 c)] W (Kt B (jT m c) W):=by
 have BX:=D (dK W (cells5 (r5 c)).toArray 91);have B1:=D ((ay W.heap.size W).alloc (Y _) (Z (cells5 (r5 c)).toArray 91));have BS:=D (J8 v m c (W.alloc (Z (cells5 (r5 c)).toArray 91)) ((Row.dB ho).on B1.out) hr (by omega));have OW:=D ho;have LN:=D (show (m.map r5).length=m.length from aj ..);have CL:=D (tK m c.1);obtain⟨ao,ac,rfl⟩:=(Row.dB ho).len;rw [LN.out] at *;rw [ht] at BS;have hbw:W.heap.size<(W.alloc (Z (cells5 (r5 c)).toArray 91)).heap.size:=by simp
 by_cases hf:m.length=5
 ·have Q:=D (Hy ht hf);generalize jT m c=q at *;have e5:((m.length:Int) == (5:Int))=aR:=by simp; omega
  clear ho hf;simp only [r5] at BS ⊢;go_enter aS,aO;go_wp2_with fail;refine BS.out.mono ?_;rintro e2 w2 ⟨rfl,hb2⟩;have B2:=D (B1.out.trans (hb2.mono B1.out.size));clear hb2 BS B1 BX;go_wp2
  go_ret2
  exact⟨B2.out.mono hB,by rw [Q.out]; rfl⟩
 ·have Q:=D (Hz ht (show m.length<5 by omega));have IN:=D (fun (w2:aB) (h2:ig w2 B (J ao m.length ac) (m.map r5)) (hB2:B<=w2.heap.size)=>Dc B (J ao m.length ac) (m.map r5) (jv m c.1) (r5 c) w2.heap.size (w2.alloc (Z (cells5 (r5 c)).toArray 91)) (dI h2 ((ay _ _).alloc (Y _) _)) (dK w2 _ _) (NT h2 (Y _)) (by rw [aj]; exact CL.out) (by rw [aj]; omega) (by simp; omega));generalize jT m c=q at *;have e5:((m.length:Int) == (5:Int))=aN:=by rw [beq_eq_false_iff_ne]; omega
  clear ho hf;simp only [r5] at BS ⊢;go_enter aS,aO;go_wp2_with fail;refine BS.out.mono ?_;rintro e2 w2 ⟨rfl,hb2⟩;have B2:=D (B1.out.trans (hb2.mono B1.out.size));have O2:=D (dI OW.out B2.out);obtain⟨x0,x1,x2,x3,x4⟩:=fU (BX.out.on hb2);simp only [r5] at x0 x1 x2 x3 x4;clear hb2 BS B1 BX;go_wp2_with fail;have C:=IN.out w2 O2.out (by have:=B2.out.size; omega);refine C.mono ?_;rintro e3 w3 ⟨v',rfl,ho3,hb3⟩;have B3:=D (((B2.out.mono hB).alloc (by have:=B2.out.size; omega) (Z (cells5 (r5 c)).toArray 91)).trans hb3);have O3:=D ho3;clear ho3 hb3 C IN O2 x0 x1 x2 x3 x4;go_wp2
  go_ret2
  exact⟨B3.out,by rw [Q.out]; exact⟨v',rfl,by rw [aV,List.map_cons,List.map_take,List.map_drop]; exact O3.out⟩⟩
theorem Kv (B:Nat) (v:aI) (m:List Cn) (c:Cn) (W:aB) (ho:ig W B v (m.map r5)) (hr:gU m) (h5:m.length<=5) (hB:B<=W.heap.size) (ht:jH m c.1=aR) :
  aX O 170 #[v,cv (r5 c)] W (Kt B (jT m c) W):=by
 obtain⟨x,hx,hn,hi⟩:=Gz ht;have BX:=D (dK W (cells5 (r5 c)).toArray 91);have B1:=D ((ay W.heap.size W).alloc (Y _) (Z (cells5 (r5 c)).toArray 91));have BS:=D (J8 v m c (W.alloc (Z (cells5 (r5 c)).toArray 91)) ((Row.dB ho).on B1.out) hr (by omega));rw [ht] at BS;have CB:=D (fun w=>Al x c w hn);have Q:=D (show jT m c=match fE x.2 c.2 with
  | some k=>.ok (m.set (jv m c.1) (x.1,k))
  | none=>.error 5 by
   unfold jT;rw [hi];cases fE x.2 c.2 with
   | none=>rfl
   | some k=>simp only [Option.map_some]; rw [if_neg (by rw [aW]; omega)])
 generalize jT m c=q at *;generalize fE x.2 c.2=r at *;have hkl:jv m c.1<m.length:=(aG.1 hx).1;generalize hk:jv m c.1=k at *;have HK:=D hkl;have ML:=D (show (m.map r5).length=m.length from aj ..);rcases eT ho with⟨_,h2⟩|⟨g,cap,cur,rfl,hBg,hg,hlc,hcm,hsz,htk⟩
 ·have:=List.map_eq_nil_iff.1 h2;subst this;simp at hkl
 ·have fl:=yT sP (m.map r5) k (r5 x) (by rw [List.getElem?_map,hx]; rfl);have cl:∀ j u,j<5->(cells5 (r5 x))[j]?=U u->W.cell? ⟨g,k * 5+j,L⟩=U u:=fun j u hj hu=>(aZ ho (k * 5+j) (by rw [aj]; show _<m.length * 5; omega)).trans ((fl j hj).trans hu);have GC:=D (fun (w2:aB) (hb:Below W.heap.size W w2)=>show w2.cell? ⟨g,k * 5,L⟩=U (ak x.1)/\w2.cell? ⟨g,k * 5+1,L⟩=U (ah V (kN x.2))/\w2.cell? ⟨g,k * 5+2,L⟩=U (ah V (lN x.2))/\w2.cell? ⟨g,k * 5+3,L⟩=U (ah V (lQ x.2))/\w2.cell? ⟨g,k * 5+4,L⟩=U (ak (kT x.2)) from
   ⟨(hb.cell (show g<W.heap.size from hg.lt)).trans (cl 0 _ (by decide) rfl),(hb.cell (show g<W.heap.size from hg.lt)).trans (cl 1 _ (by decide) rfl),(hb.cell (show g<W.heap.size from hg.lt)).trans (cl 2 _ (by decide) rfl),(hb.cell (show g<W.heap.size from hg.lt)).trans (cl 3 _ (by decide) rfl),(hb.cell (show g<W.heap.size from hg.lt)).trans (cl 4 _ (by decide) rfl)⟩)
  have OW:=D ho;have GL:=D hg.lt;have BG:=D hBg;have GBX:=D (show dx W g cur 91 from hg);rw [aj] at OW BS ⊢;generalize m.length=n at *;have ix:=lZ sP g k n cap (by omega);change ∀ w,(Instr.indexAt 34 (J (U ⟨g,0,L⟩) n cap) (ah V k)).run O w=.ok (bf (U ⟨g,k * 5,L⟩)) w at ix;clear ho hr ht hx hi hk hg hlc hcm hsz htk fl cl hBg hn;simp only [r5] at BS CB ⊢;go_enter aS,aO;go_wp2_with fail;refine BS.out.mono ?_;rintro e2 w2 ⟨rfl,hb2⟩;have B2:=D (B1.out.trans (hb2.mono B1.out.size));obtain⟨x0,x1,x2,x3,x4⟩:=fU (BX.out.on hb2);obtain⟨p0,p1,p2,p3,p4⟩:=GC.out w2 B2.out;have hw2:W.heap.size<w2.heap.size:=by have:=hb2.size; simp at this; omega
  have hg2:g<w2.heap.size:=by have:=GL.out; omega
  have TJ:∀ o,(w2.drew.alloc o).cell? ⟨g,k * 5,L⟩=U (ak x.1):=fun o=>((ay w2.heap.size w2.drew).alloc (Y _) o).cell hg2 |>.trans p0;simp only [r5] at x0 x1 x2 x3 x4;clear hb2 BS B1 BX TJ;go_wp2_with fail
  rename_i K hK
  have TAIL:∀ (pb:Nat) (wf:aB) (y:C5) (u10 u11 u12 u13 u14 u15 u16 u17 u18 u19 u20 u21 u22 u23 u24 u25 u26 u27 u28 u29 u30 u31 u32 u33 u34 u35 u36 u37 u38 u39 u40 u41 u42 u43:aI),dx wf pb (cells5 y).toArray 91->Below W.heap.size W wf->(∀ k',r=U k'->y=r5 (x.1,k'))->K ⟨#[J (U ⟨g,0,L⟩) n cap,cv (c.1,kN c.2,lN c.2,lQ c.2,kT c.2),undef,bf (U ⟨W.heap.size,0,L⟩),J L 0 0,.nilIface,ah V k,.bool aR,bf (U ⟨pb,0,L⟩),.bool r.isSome,u10,u11,u12,u13,u14,u15,u16,u17,u18,u19,u20,u21,u22,u23,u24,u25,u26,u27,u28,u29,u30,u31,u32,u33,u34,u35,u36,u37,u38,u39,u40,u41,u42,u43],[]⟩ wf:=by
   clear x0 x1 x2 x3 x4 p0 p1 p2 p3 p4 CB B2 hw2 hg2;intro pb wf y u10 u11 u12 u13 u14 u15 u16 u17 u18 u19 u20 u21 u22 u23 u24 u25 u26 u27 u28 u29 u30 u31 u32 u33 u34 u35 u36 u37 u38 u39 u40 u41 u42 u43 hyb hbw hyk;obtain⟨y0,y1,y2,y3,y4⟩:=fU hyb;have OF:=dI OW.out hbw;have fz:=fun j=>(GBX.out.on hbw).fr j;obtain⟨p0,p1,p2,p3,p4⟩:=GC.out wf hbw;have HB:=D hbw;have HO:=D OF;have HY:=D hyk;clear hyb hbw OF GC OW hyk;apply hK;clear hK;rcases r with _|k'
   ·have QQ:=D (show q=.error 5 from Q.out);clear Q;go_wp2
    go_ret2
    exact⟨HB.out.mono hB,by rw [QQ.out]; rfl⟩
   ·have QQ:=D (show q=.ok (m.set k (x.1,k')) from Q.out);clear Q;go_wp2
    go_ret2
    refine⟨zn (HB.out.mono hB) g BG.out _ _ _ _ _ _,?_⟩;rw [QQ.out];refine⟨J (U ⟨g,0,L⟩) n cap,rfl,?_⟩;rw [List.map_set,<- HY.out k' rfl];exact H9 HO.out ML.out.symm HK.out
  clear hK
  go_region_with (go_at_call 133; refine (CB.out _).mono ?_; rintro e w3 ⟨⟨y,rfl,hy⟩,hb3⟩; (try (have ZB:=D ((dK w2.drew (cells5 (⟨#[]⟩,0,0,0,⟨#[]⟩)).toArray 91).on hb3); obtain⟨z0,z1,z2,z3,z4⟩:=fU ZB.out; have fz:=fun k=>ZB.out.fr k; simp only [World.size_drew] at z0 z1 z2 z3 z4 fz)))
  all_goals simp only [Exit.then]
  all_goals first
   | exact TAIL w3.heap.size _ y _ _ _ _ _ _ _ _ _ _ _ _ _ _ _ _ _ _ _ _ _ _ _ _ _ _ _ _ _ _ _ _ _ _ (dK w3 _ _) (((B2.out.drew).trans (hb3.mono (by have:=B2.out.size; simp; omega))).alloc (by have:=hb3.size; have:=B2.out.size; simp at *; omega) _) hy
   | exact TAIL w2.heap.size _ y _ _ _ _ _ _ _ _ _ _ _ _ _ _ _ _ _ _ _ _ _ _ _ _ _ _ _ _ _ _ _ _ _ _ (rM ((dK w2.drew (cells5 (⟨#[]⟩,0,0,0,⟨#[]⟩)).toArray 91).on hb3) y) (iW (((B2.out.drew).alloc (by have:=B2.out.size; simp; omega) _).trans (hb3.mono (by have:=B2.out.size; simp; omega))) w2.heap.size (by have:=B2.out.size; omega) _ _ _ _ _) hy
theorem Kw (B:Nat) (v:aI) (m:List Cn) (c:Cn) (W:aB) (ho:ig W B v (m.map r5)) (hr:gU m) (h5:m.length<=5) (hB:B<=W.heap.size) :
  aX O 170 #[v,cv (r5 c)] W (Kt B (jT m c) W):=by
 cases h:jH m c.1
 ·exact Ku B v m c W ho hr h5 hB h
 ·exact Kv B v m c W ho hr h5 hB h
end Pr
end Go.Proofs.YtghlpefopidlaaaGreat
