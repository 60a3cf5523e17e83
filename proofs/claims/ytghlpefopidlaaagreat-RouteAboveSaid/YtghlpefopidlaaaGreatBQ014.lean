/-
  The order of IDs: Le. Conditions as told.
-/
import Derived.Test.YtghlpefopidlaaaGreatBQ004
import Derived.Test.YtghlpefopidlaaaGreatBQ012
import Derived.Test.YtghlpefopidlaaaGreatBQ013
set_option maxRecDepth 100000
set_option maxHeartbeats 64000000
open _root_.Go renaming World->au,Calls->aF,Value->aG,bodyPost_ret->aH,maxLen->aJ
open Go.Builtin renaming copy_->ak,append_->aC
open Go.Ending renaming returned->aj
open Go.Instr renaming sliceAt->Z
open Go.IntKind renaming i64->K,wrap_i64->aB
open Go.Lib renaming hid->U
open Go.Obj renaming cells->ah
open Go.Proofs.Tryz renaming prog->L,ntmps106->ay,func106->aA,results116->aD
open Go.Value renaming slice->D,int->J,bool->aI
open _root_.Option renaming none->O,some->V
namespace Go.Proofs.YtghlpefopidlaaaGreat
namespace Av
open Go.RowKit Go.Sort Rw YtghlpefopidlaaaGreat.Nm Pr Bk
theorem pY (x y:dV) (w:au):aF L 31 #[oK x,oK y] w fun e w'=>e=aj (aI (dP x y))/\Below w.heap.size w w':=by
 have C:=vF x y;have R:=U (show decide (jO x y<0)=dP x y from by
  have h:=oU x y;cases hl:dP x y
  ·rw [hl] at h; simp at h; simpa using h
  ·rw [hl] at h; simp at h; simpa using h)
 obtain⟨a,b⟩:=x;obtain⟨c,d⟩:=y;obtain⟨h0,X,Y⟩:=jd w #[J K a,J K b] #[J K c,J K d] 23 23;obtain⟨x0,x1⟩:=X.cs2;obtain⟨y0,y1⟩:=Y.cs2;have B:=U h0;generalize jO (a,b) (c,d)=r at *;generalize dP (a,b) (c,d)=s at *;clear X Y h0;go_enter Tryz.func31,Tryz.ntmps31;go_wp2_with fail;have C:=C ((w.alloc (ah #[J K a,J K b] 23)).alloc (ah #[J K c,J K d] 23));refine C.mono ?_;rintro e w1 ⟨rfl,hb⟩;go_wp2;go_ret;exact⟨by have h:=R.out; subst h; rfl,B.out.trans (hb.mono B.out.size)⟩
theorem Jc (x y:jS) (w:au):aF L 36 #[lJ x,lJ y] w fun e w'=>e=aj (J K (jO (x.1,x.2.1) (y.1,y.2.1)))/\Below w.heap.size w w':=by
 obtain⟨a,b,⟨s1,s2,s3⟩,p⟩:=x;obtain⟨c,d,⟨t1,t2,t3⟩,q⟩:=y;have C:=vF (a,b) (c,d);obtain⟨h0,X,Y⟩:=jd w #[J K a,J K b,D s1 s2 s3,J K p] #[J K c,J K d,D t1 t2 t3,J K q] 36 36;have x1:=X.cell 1;have x0:=X.cell 0;have y1:=Y.cell 1;have y0:=Y.cell 0;simp only [List.getElem?_toArray,List.getElem?_cons_zero,List.getElem?_cons_succ] at x0 x1 y0 y1;have B:=U h0;generalize jO (a,b) (c,d)=r at *;clear X Y h0;go_enter Tryz.func36,Tryz.ntmps36;go_wp2_with fail;have C:=C ((w.alloc (ah #[J K a,J K b,D s1 s2 s3,J K p] 36)).alloc (ah #[J K c,J K d,D t1 t2 t3,J K q] 36));refine C.mono ?_;rintro e w1 ⟨rfl,hb⟩;go_wp2;go_ret;exact⟨rfl,B.out.trans (hb.mono B.out.size)⟩
theorem Lu {W:au} {b:Nat} {c:dV} (h:dG W b (kM c).toArray 23):Ac W (D (V ⟨b,0,O⟩) 1 1) [c] :=
 Or.inr ⟨⟨b,0,O⟩,1,rfl,by simp,by decide,nS h (by simp [EJ])⟩
def vQ (B:Nat) (l:List dV) (k:Nat) (c:dV) (vv:aG) (W:au) (e:Ending) (w':au):Prop:=∃ v',e=aj v'/\Ca w' B v' (l.take k++c::l.drop k)/\Below B W w'/\(∀ j,j<W.heap.size->V j≠vv.ownBlock->w'.heap[j]?=W.heap[j]?)
theorem Cv (B:Nat) (v:aG) (l:List dV) (c:dV) (b:Nat) (W:au) (ho:Ca W B v l) (hx:dG W b (kM c).toArray 23) (hl:l.length<=900) (hB:B<=W.heap.size) :
  aF L 106 #[v,J K (l.length:Nat),D (V ⟨b,0,O⟩) 1 1] W (vQ B l l.length c v W):=by
 obtain⟨v',w',hr,ho2,hg⟩:=kr BU B ho (Lu hx) (by omega) (by simp) hB 26;have hr:(aC #[26,26] 26 #[v,D (V ⟨b,0,O⟩) 1 1]).run L W=.ok v' w':=hr;have Q:=U (show vQ B l l.length c v W (aj v') w' from ⟨v',rfl,by rw [List.take_of_length_le (Nat.le_refl _),List.drop_of_length_le (Nat.le_refl _)]; exact ho2,(Below.refl B W).grown hg hB (fun j hj=>(ho.lt j hj).1),fun j hj hne=>hg.block j hj hne⟩);obtain⟨sx,hs,_⟩:=uU BU (Row.dH ho) l.length (Nat.le_refl _);have hs:∀ w,(Z 26 v (V (J K l.length)) O O).run L w=.ok sx w:=hs;obtain⟨ao,ac,rfl⟩:=(Row.dH ho).len;clear ho ho2 hg;generalize hn:l.length=n at *;clear hn;go_enter aA,ay;go_wp2_with (first | (at_builtin; refine wpList_append_run rfl _ _ 26 rfl rfl rfl hr ?_) | fail);go_ret;exact Q.out
theorem Lv (w:au) (g b k la lb cb:Nat) (cur cs:Array aG) (hb:dG w b cs 23) (hg:dG w g cur 23) (hne:b≠g) (h0:0<cur.size):(callFunc 142 #[D (V ⟨b,0,O⟩) la 1,D (V ⟨g,k,O⟩) lb cb]).run L w=.ok (.value (aI false)) w:=by
 rw [run_callFunc_extern Tryz.func142 (by kernel_rfl) (by kernel_rfl) (by kernel_rfl) (e:=Extern.SlicesOverlaps.overlaps #[26,26] #[4]) (by kernel_rfl),
  Lib.run_overlaps_apart w 26 4 23 Tryz.underlying26 2 Tryz.sizeOf23 ⟨b,0,O⟩ ⟨g,k,O⟩ la 1 lb cb hne 23 23 cs.size cur.size hb.shape hg.shape (by omega) (hb.fr 0) (hb.fr _)]
 rfl
theorem xU (B g n cap:Nat) (cur:Array aG) (l:List dV) (k:Nat) (c:dV) (b:Nat) (W:au) (hn:n=l.length) (hBg:B<=g) (hg:dG W g cur 23) (hcm:cap<=aJ) (hsz:cur.size=cap * 2) (ht:cur.toList.take (n * 2)=flat EJ l) (hx:dG W b (kM c).toArray 23) (hne:b≠g) (hk:k<n) (hroom:n+1<=cap) (hl:n<=900) :
  aF L 106 #[D (V ⟨g,0,O⟩) n cap,J K k,D (V ⟨b,0,O⟩) 1 1] W (vQ B l k c (D (V ⟨g,0,O⟩) n cap) W):=by
 obtain⟨R1,R2,r1,r2,ow⟩:=nk (E:=EJ) (l:=l) (k:=k) (cap:=cap) (cur:=cur) (cs:=(kM c).toArray) (c:=c) BU (by omega) (by omega) hsz (by rw [<- hn]; exact ht) g b hne;have hov:=fun lb cb=>Lv W g b ((k+1) * 2) 1 lb cb cur (kM c).toArray hx hg hne (by omega);have s0:=fE (E:=EJ) BU g k n cap (by omega) (by omega);have s1:=iQ (E:=EJ) BU ⟨g,0,O⟩ (n+1) n cap (by omega);have s2:=fE (E:=EJ) BU g (k+1) (n+1) cap (by omega) (by omega);have s3:=fE (E:=EJ) BU g k (n+1) cap (by omega) (by omega);have q1:=r1 W.drew 3 (n+1-(k+1)) (cap-(k+1)) (n+1-k) (cap-k) hg (by omega);have q2:=r2 (W.drew.setRow g R1) 3 (n+1-k) (cap-k) (dG.set (show dG W.drew g cur 23 from hg) R1) (dG.other (show dG W.drew b _ 23 from hx) hne R1) rfl (by omega);have Q:=U (show vQ B l k c (D (V ⟨g,0,O⟩) n cap) W (aj (D (V ⟨g,0,O⟩) (n+1) cap)) ((W.drew.setRow g R1).setRow g R2) from ⟨_,rfl,by rw [hn]; exact ow _ B hBg hcm (dG.set (dG.set (show dG W.drew g cur 23 from hg) R1) R2),below_setRow (below_setRow (Below.refl B W).drew hBg _) hBg _,fun j hj hne=>(setRow_other _ g j _ (fun e=>hne (by rw [e]; rfl))).trans (setRow_other _ g j _ (fun e=>hne (by rw [e]; rfl)))⟩);clear r1 r2 ow hg ht hx hsz hBg hcm;change ∀ w,(Z 26 (D (V ⟨g,0,O⟩) n cap) (V (J K k)) O O).run L w=.ok (D (V ⟨g,k * 2,O⟩) (n-k) (cap-k)) w at s0;change ∀ w,(Z 26 (D (V ⟨g,0,O⟩) n cap) O (V (J K ((n:Int)+1))) O).run L w=.ok (D (V ⟨g,0,O⟩) (n+1) cap) w at s1;change ∀ w,(Z 26 (D (V ⟨g,0,O⟩) (n+1) cap) (V (J K ((k:Int)+1))) O O).run L w=.ok (D (V ⟨g,(k+1) * 2,O⟩) (n+1-(k+1)) (cap-(k+1))) w at s2;change ∀ w,(Z 26 (D (V ⟨g,0,O⟩) (n+1) cap) (V (J K k)) O O).run L w=.ok (D (V ⟨g,k * 2,O⟩) (n+1-k) (cap-k)) w at s3;have e1:((k:Int) == (n:Int))=false:=by rw [beq_eq_false_iff_ne]; omega
 have e2:decide ((cap:Int)<(n:Int)+1)=false:=by simp; omega
 change (ak #[26,26] 3 #[D (V ⟨g,(k+1) * 2,O⟩) (n+1-(k+1)) (cap-(k+1)),D (V ⟨g,k * 2,O⟩) (n+1-k) (cap-k)]).run L W.drew=.ok (J K ((l.length-k:Nat):Int)) (W.drew.setRow g R1) at q1;change (ak #[26,26] 3 #[D (V ⟨g,k * 2,O⟩) (n+1-k) (cap-k),D (V ⟨b,0,O⟩) 1 1]).run L (W.drew.setRow g R1)=.ok (J K 1) ((W.drew.setRow g R1).setRow g R2) at q2;clear hn;go_enter aA,ay;go_wp2_with (first | (simp only [hov]) | fail);clear hov s0 s1 s2 s3;have hw1:IntKind.i64.wrap ((k:Int)+1)=(k:Int)+1:=by rw [aB]; omega
 have hb1:(0:Int)<=(k:Int)+1:=by omega
 have hb0:(k:Int)+1<=(n:Int)+1:=by omega
 have htn:((k:Int)+1).toNat=k+1:=by omega
 have hb2:¬ (cap=k+1):=by omega
 have hb3:(k:Int)<=(n:Int)+1:=by omega
 have hb4:¬ (cap=k):=by omega
 have h81:n+1-(k+1)=n-k:=by omega
 rw [h81] at q1;clear h81
 go_region_law (refine gq rfl (.tmp 73) (.tmp 76) 26 rfl (v:=D (V ⟨g,(k+1) * 2,O⟩) (n-k) (cap-(k+1))) (xv:=D (V ⟨g,k * 2,O⟩) (n+1-k) (cap-k)) (by simp [Act.eval,Act.put]) (by simp [Act.eval,Act.put]) q1 ?_)
 all_goals simp only [Exit.then]
 all_goals apply_assumption
 clear q1 hw1 hb1 hb0 htn hb2 hb3 hb4;have s3:=fE (E:=EJ) BU g k (n+1) cap (by omega) (by omega);change ∀ w,(Z 26 (D (V ⟨g,0,O⟩) (n+1) cap) (V (J K k)) O O).run L w=.ok (D (V ⟨g,k * 2,O⟩) (n+1-k) (cap-k)) w at s3;go_wp2_with (first | (at_builtin; refine wpList_copy_run rfl _ _ 26 rfl rfl rfl q2 ?_) | fail);go_ret;exact Q.out
theorem Ai (B g n cap:Nat) (cur:Array aG) (l:List dV) (k:Nat) (c:dV) (b:Nat) (W:au) (hn:n=l.length) (hg:dG W g cur 23) (hcm:cap<=aJ) (hnc:n<=cap) (ht:cur.toList.take (n * 2)=flat EJ l) (hx:dG W b (kM c).toArray 23) (hk:k<n) (hroom:cap<n+1) (hl:n<=900) (hB:B<=W.heap.size) :
  aF L 106 #[D (V ⟨g,0,O⟩) n cap,J K k,D (V ⟨b,0,O⟩) 1 1] W (vQ B l k c (D (V ⟨g,0,O⟩) n cap) W):=by
 have hgw:=hg.lt;have hbw:=hx.lt;obtain⟨G,R1,R2,R3,hG1,hG2,r1,r2,r3,ow⟩:=oN (E:=EJ) (l:=l) (k:=k) (cap:=cap) (cur:=cur) (cs:=(kM c).toArray) (c:=c) BU 3 Tryz.underlying3 (by omega) (by omega) (by omega) (by omega) (by rw [<- hn]; exact ht) W g b hg hbw;unfold aJ at hcm hG2;have s0:=fE (E:=EJ) BU g k n cap (by omega) (by omega);have s1:=iQ (E:=EJ) BU ⟨g,0,O⟩ k n cap (by omega);have s2:=fE (E:=EJ) BU W.heap.size k (n+1) G (by omega) (by omega);have s3:=fE (E:=EJ) BU W.heap.size (k+1) (n+1) G (by omega) (by omega);have a1:=r1 26;have n1:=dO W.drew R1 23;have bl:W.drew.heap.size=W.heap.size:=rfl;rw [bl] at n1;have g1:dG (W.drew.alloc (ah R1 23)) g cur 23:=dG.more (show dG W.drew g cur 23 from hg) _;have x1:dG (W.drew.alloc (ah R1 23)) b (kM c).toArray 23:=dG.more (show dG W.drew b _ 23 from hx) _;have q2:=r2 (W.drew.alloc (ah R1 23)) 3 (n+1-k) (G-k) n1 x1 rfl (by omega);have q3:=r3 ((W.drew.alloc (ah R1 23)).setRow W.heap.size R2).drew 3 (n+1-(k+1)) (G-(k+1)) (n-k) (cap-k) (dG.set n1 R2) (dG.other g1 (by omega) R2) (by omega);have Q:=U (show vQ B l k c (D (V ⟨g,0,O⟩) n cap) W (aj (D (V ⟨W.heap.size,0,O⟩) (n+1) G)) (((W.drew.alloc (ah R1 23)).setRow W.heap.size R2).drew.setRow W.heap.size R3) from ⟨_,rfl,by rw [hn]; exact ow _ B hB (dG.set (dG.set n1 R2) R3),below_setRow (below_setRow ((Below.refl B W).drew.alloc hB _) hB _).drew hB _,fun j hj _=>(setRow_other _ W.heap.size j _ (by omega)).trans ((setRow_other _ W.heap.size j _ (by omega)).trans (Array.getElem?_push_lt hj |>.trans (Array.getElem?_eq_getElem hj).symm))⟩);have l1:l.length+1=n+1:=by rw [hn]
 rw [l1,<- hn] at a1;clear r1 r2 r3 ow hg ht hx g1 x1 n1 bl l1;change ∀ w,(Z 26 (D (V ⟨g,0,O⟩) n cap) (V (J K k)) O O).run L w=.ok (D (V ⟨g,k * 2,O⟩) (n-k) (cap-k)) w at s0;change ∀ w,(Z 26 (D (V ⟨g,0,O⟩) n cap) O (V (J K k)) O).run L w=.ok (D (V ⟨g,0,O⟩) k cap) w at s1;change ∀ w,(Z 26 (D (V ⟨W.heap.size,0,O⟩) (n+1) G) (V (J K k)) O O).run L w=.ok (D (V ⟨W.heap.size,k * 2,O⟩) (n+1-k) (G-k)) w at s2;change ∀ w,(Z 26 (D (V ⟨W.heap.size,0,O⟩) (n+1) G) (V (J K ((k:Int)+1))) O O).run L w=.ok (D (V ⟨W.heap.size,(k+1) * 2,O⟩) (n+1-(k+1)) (G-(k+1))) w at s3;change (aC #[26,3] 26 #[D (V ⟨g,0,O⟩) k cap,J K ((n:Int)+1-k)]).run L W=.ok (D (V ⟨W.heap.size,0,O⟩) (n+1) G) (W.drew.alloc (ah R1 23)) at a1;change (ak #[26,26] 3 #[D (V ⟨W.heap.size,k * 2,O⟩) (n+1-k) (G-k),D (V ⟨b,0,O⟩) 1 1]).run L (W.drew.alloc (ah R1 23))=.ok (J K 1) ((W.drew.alloc (ah R1 23)).setRow W.heap.size R2) at q2;change (ak #[26,26] 3 #[D (V ⟨W.heap.size,(k+1) * 2,O⟩) (n+1-(k+1)) (G-(k+1)),D (V ⟨g,k * 2,O⟩) (n-k) (cap-k)]).run L ((W.drew.alloc (ah R1 23)).setRow W.heap.size R2).drew=.ok (J K ((l.length-k:Nat):Int)) (((W.drew.alloc (ah R1 23)).setRow W.heap.size R2).drew.setRow W.heap.size R3) at q3;have e1:((k:Int) == (n:Int))=false:=by rw [beq_eq_false_iff_ne]; omega
 have e2:decide ((cap:Int)<(n:Int)+1)=true:=by simp; omega
 have hGn:n+1<=G:=by omega
 clear hn;generalize W.heap.size=N at *;generalize W.drew.alloc (ah R1 23)=W1 at *;generalize W1.setRow N R2=W2 at *;go_enter aA,ay;go_wp2_with (first | (at_builtin; refine gN rfl _ _ 26 3 rfl rfl rfl a1 ?_) | (at_builtin; refine wpList_copy_run rfl _ _ 26 rfl rfl rfl q2 ?_) | fail);clear a1 q2 s0 s1 s2 s3;have hw1:IntKind.i64.wrap ((k:Int)+1)=(k:Int)+1:=by rw [aB]; omega
 have hb1:(0:Int)<=(k:Int)+1:=by omega
 have hb0:(k:Int)+1<=(n:Int)+1:=by omega
 have htn:((k:Int)+1).toNat=k+1:=by omega
 have hb2:¬ (G=k+1):=by omega
 have hb3:(k:Int)<=(n:Int):=by omega
 have hb4:¬ (cap=k):=by omega
 have h81:n+1-(k+1)=n-k:=by omega
 rw [h81] at q3;clear h81
 go_region_law (refine gq rfl (.tmp 50) (.tmp 53) 26 rfl (v:=D (V ⟨N,(k+1) * 2,O⟩) (n-k) (G-(k+1))) (xv:=D (V ⟨g,k * 2,O⟩) (n-k) (cap-k)) (by simp [Act.eval,Act.put]) (by simp [Act.eval,Act.put]) q3 ?_)
 all_goals simp only [Exit.then]
 all_goals apply_assumption
 go_wp2;go_ret;exact Q.out
theorem Cw (B:Nat) (v:aG) (l:List dV) (k:Nat) (c:dV) (b:Nat) (W:au) (ho:Ca W B v l) (hx:dG W b (kM c).toArray 23) (hne:v.ownBlock≠V b) (hk:k<=l.length) (hl:l.length<=900) (hB:B<=W.heap.size) :
  aF L 106 #[v,J K k,D (V ⟨b,0,O⟩) 1 1] W (vQ B l k c v W):=by
 rcases Nat.lt_or_ge k l.length with h|h
 ·rcases eZ ho with⟨_,h2⟩|⟨g,cap,cur,rfl,h1,h2,h3,h4,h5,h6⟩
  ·rw [h2] at h; simp at h
  ·rcases Nat.lt_or_ge cap (l.length+1) with h7|h7
   ·exact Ai B g _ cap cur l k c b W rfl h2 h4 h3 h6 hx h h7 hl hB
   ·exact xU B g _ cap cur l k c b W rfl h1 h2 h4 h5 h6 hx (fun e=>hne (by simp [Value.ownBlock,e])) h h7 hl
 ·obtain rfl:k=l.length:=by omega
  exact Cv B v l c b W ho hx hl hB
def fM (l:List Ad) (x:dV):Option Ad:=l.find? fun a=>decide (a.id=x)
theorem vR {l:List Ad} {x:dV} (h:∀ (j:Nat) (a:Ad),l[j]?=V a->a.id≠x):fM l x=O:=by
 unfold fM;rw [List.find?_eq_none];intro a ha;obtain⟨j,hj⟩:=List.mem_iff_getElem?.1 ha;simpa using h j a hj
theorem rE:∀ {l:List Ad} {x:dV} {k:Nat} {a:Ad},l[k]?=V a->a.id=x->(∀ (j:Nat) (z:Ad),j<k->l[j]?=V z->z.id≠x)->fM l x=V a
 | [],_,_,_,h,_,_=>by simp at h
 | b::l,x,0,a,h,hx,_=>by
  obtain rfl:b=a:=by simpa using h
  simp [fM,hx]
 | b::l,x,k+1,a,h,hx,hall=>by
  have hb:=hall 0 b (by omega) rfl;have ih:=rE (l:=l) (x:=x) (k:=k) (a:=a) (by simpa using h) hx fun j z hj hz=>hall (j+1) z (by omega) (by simpa using hz);unfold fM at *;rw [List.find?_cons_of_neg (by simpa using hb)];exact ih
def Ws (W:au) (o:Option Ad) (w:au) (e:Ending) (w':au):Prop:=(match o with
 | none=>e=aj (.tuple #[lJ (0,0,(O,0,0),0),aI false])
 | some a=>∃ r:jS,e=aj (.tuple #[lJ r,aI true])/\xQ w' r a)/\Below W.heap.size w w'
theorem Cx (me:Int) (nv sv ev ov:aG) (av:Sl) (l:List jS) (al:List Ad) (x:dV) (w:au) (hs:Er w (dQ av) l) (hA:eT (xQ w) l al) (hf:∀ a∈al,a.p.length<=900) :
  aF L 116 #[.agg #[J K me,nv,dQ av,sv,ev,ov],oK x] w (Ws w (fM al x) w):=by
 obtain⟨c,d⟩:=x;obtain⟨so,sn,sc⟩:=av;obtain⟨ao,ac,hv⟩:=hs.len;have hv:D so sn sc=D ao l.length ac:=hv;obtain⟨rfl,rfl,rfl⟩:so=ao/\sn=l.length/\sc=ac:=by simpa using hv
 obtain⟨h0,h1,h2⟩:=jd w #[J K me,nv,D so l.length sc,sv,ev,ov] #[J K c,J K d] 30 23;have h3:=jk ((w.alloc (ah #[J K me,nv,D so l.length sc,sv,ev,ov] 30)).alloc (ah #[J K c,J K d] 23)) (ah #[J K 0,J K 0,D O 0 0,J K 0] 36);have h4:=dO ((w.alloc (ah #[J K me,nv,D so l.length sc,sv,ev,ov] 30)).alloc (ah #[J K c,J K d] 23)) #[J K 0,J K 0,D O 0 0,J K 0] 36;have hsz:((w.alloc (ah #[J K me,nv,D so l.length sc,sv,ev,ov] 30)).alloc (ah #[J K c,J K d] 23)).heap.size=w.heap.size+1+1:=by simp
 rw [hsz] at h4;have B:=U (h0.trans (h3.mono h0.size));have HS:=U (hs.on B.out);have HA:=U (hA.mono fun _ _ h=>h.on B.out);have X2:=U (h1.on h3);have X3:=U (h2.on h3);have X4:=U h4;have HF:=U hf;have lm:=hs.most;unfold aJ at lm;obtain⟨n,hn⟩:∃ n,n=l.length:=⟨_,rfl⟩;have q3:=X2.out.cell 2;simp only [List.getElem?_toArray,List.getElem?_cons_zero,List.getElem?_cons_succ] at q3;rw [<- hn] at HS X2 X3 X4 HA lm q3 B ⊢;have HN:=U hn.symm;obtain⟨fo,hfo⟩:∃ o,o=fM al (c,d):=⟨_,rfl⟩;rw [<- hfo];have FO:=U hfo;clear h0 h1 h2 h3 h4 hs hv hn hA hf hsz hfo;go_enter Tryz.func116,Tryz.ntmps116;go_upto_region 1 with fail;generalize ((w.alloc (ah #[J K me,nv,D so n sc,sv,ev,ov] 30)).alloc (ah #[J K c,J K d] 23)).alloc (ah #[J K 0,J K 0,D O 0 0,J K 0] 36)=W at *;go_wp2
 go_loopw [11] (fun i wr=>∃ k:Nat,k<=n/\i=J K k/\Below W.heap.size W wr/\∀ (j:Nat) (y:jS),j<k->l[j]?=V y->(y.1,y.2.1)≠(c,d)) (fun i _=>n-(intOf i).toNat)
 case atStart=>exact⟨0,Nat.zero_le _,rfl,Below.refl _ _,fun j y h=>by omega⟩
 case round =>
  obtain⟨k,hk,rfl,hbe,hall⟩:=hrel;have BE:=U hbe;have AL:=U hall;clear hbe hall;by_cases hlt:k<n
  ·obtain⟨y,hy⟩:∃ y,l[k]?=V y:=⟨_,List.getElem?_eq_getElem (by rw [HN.out]; exact hlt)⟩;obtain⟨p,ix,px⟩:=Zi HS.out rfl HN.out hy;obtain⟨p0,p1,p2,p3⟩:=px wr BE.out;obtain⟨y1,y2,⟨yo,yn,yc⟩,y4⟩:=y;simp only at p0 p1 p2 p3;have NB:=U (jk wr (ah #[J K y1,J K y2,D yo yn yc,J K y4] 36));obtain⟨x0,x1⟩:=((X3.out.on BE.out).on NB.out).cs2;have hw3:IntKind.i64.wrap ((k:Int)+1)=(k:Int)+1:=IntWalk.i64_in _ (by omega);obtain⟨r,hr⟩:∃ r,(y1 == c && y2 == d)=r:=⟨_,rfl⟩;have he:=Ae y1 y2 c d r hr;have HY:=U hy;have HR:=U hr;clear px hy hr;cases r
   ·go_wp2
    go_roundw
    case rel=>exact⟨k+1,by omega,by go_num,BE.out.trans (NB.out.mono BE.out.size),fun j y' hj h1=>by
     rcases Nat.lt_or_ge j k with h3|h3
     ·exact AL.out j y' h3 h1
     ·obtain rfl:j=k:=by omega
      have e1:=HY.out;rw [h1] at e1;rw [Option.some.inj e1];intro e;obtain⟨rfl,rfl⟩:y1=c/\y2=d:=by simpa using e
      have:=HR.out;simp at this⟩
    case measure=>simp [intOf]; omega
   ·obtain⟨a,ha⟩:∃ a,al[k]?=V a:=⟨_,List.getElem?_eq_getElem (by rw [<- HA.out.len,HN.out]; exact hlt)⟩;obtain⟨z,hz1,hz2⟩:=HA.out.at k a ha;rw [HY.out] at hz1;obtain rfl:=Option.some.inj hz1;have BA:=U (BE.out.trans (NB.out.mono BE.out.size));have C:=U (vL (y1,y2,(yo,yn,yc),y4) a.p _ (hz2.2.2.on BA.out) (HF.out a (List.mem_of_getElem? ha)));have HZ:=U hz2;have h8:=HR.out;obtain⟨rfl,rfl⟩:y1=c/\y2=d:=by simpa using h8
    have FA:=U (show fo=V a by
     rw [FO.out];refine rE ha hz2.1.symm fun j z hj hzz=>?_;obtain⟨u,hu1,hu2⟩:=HA.out.at j z hzz;rw [<- hu2.1];exact AL.out j u hj hu1)
    have ZR:=(X4.out.on BE.out).on NB.out;clear hz1 hz2 ha h8;go_wp2_with fail;refine C.out.mono ?_;rintro e w1 ⟨⟨⟨u1,u2,u3⟩,rfl,ho⟩,hb⟩;have Y1:=ZR.on hb;have B1:=U (BA.out.trans (hb.mono BA.out.size));obtain⟨r0,r1,r2,r3⟩:=Y1.Gq;obtain⟨t0,t1,t2,t3⟩:=Y1.ZH;have zz:=Y1.lt;have hs2:w.heap.size+1+1<(wr.alloc (ah #[J K y1,J K y2,D yo yn yc,J K y4] 36)).heap.size:=ZR.lt;have FB:=U (vK Y1 (J K y1) (J K y2) (D u1 u2 u3) (J K y4));have BL:=U (qK (b:=w.heap.size+1+1) (B.out.trans (B1.out.mono B.out.size)) (by omega) (J K y1) (J K y2) (D u1 u2 u3) (J K y4));have FW:=U (Ck ho (w.heap.size+1+1) hs2 (J K y1) (J K y2) (D u1 u2 u3) (J K y4));clear Y1 ho hb hs2 ZR;go_wp2_with fail;obtain⟨v0,v1,v2,v3⟩:=FB.out.Gq;refine aH (v:=.tuple #[.agg #[J K y1,J K y2,D u1 u2 u3,J K y4],aI true]) (by simp [results,aD,go_sem,v0,v1,v2,v3]) rfl ?_;rw [FA.out];exact⟨⟨(y1,y2,(u1,u2,u3),y4),rfl,HZ.out.1,HZ.out.2.1,Row.dH FW.out⟩,BL.out⟩
  ·obtain rfl:k=n:=by omega
   have FA:=U (show fo=O by
    rw [FO.out];refine vR fun j z hzz=>?_;obtain⟨u,hu1,hu2⟩:=HA.out.at j z hzz;rw [<- hu2.1];exact AL.out j u (by rw [<- HN.out]; exact (List.getElem?_eq_some_iff.1 hu1).1) hu1)
   have Y1:=X4.out.on BE.out;obtain⟨r0,r1,r2,r3⟩:=Y1.Gq;obtain⟨t0,t1,t2,t3⟩:=Y1.ZH;have zz:=Y1.lt;have FB:=U (vK Y1 (J K 0) (J K 0) (D O 0 0) (J K 0));have BL:=U (qK (b:=w.heap.size+1+1) (B.out.trans (BE.out.mono B.out.size)) (by omega) (J K 0) (J K 0) (D O 0 0) (J K 0));clear Y1;go_wp2_with fail;obtain⟨v0,v1,v2,v3⟩:=FB.out.Gq;refine aH (v:=.tuple #[.agg #[J K 0,J K 0,D O 0 0,J K 0],aI false]) (by simp [results,aD,go_sem,v0,v1,v2,v3]) rfl ?_;rw [FA.out];exact⟨rfl,BL.out⟩
end Av
namespace Bk
open Go.RowKit Go.Sort Rw YtghlpefopidlaaaGreat.Nm Pr
end Bk
end Go.Proofs.YtghlpefopidlaaaGreat
