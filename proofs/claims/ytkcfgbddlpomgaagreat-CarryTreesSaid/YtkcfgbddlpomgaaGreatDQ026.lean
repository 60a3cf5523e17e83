/-
  slices.Insert of one. Conditions as told.
-/
import Derived.Test.YtkcfgbddlpomgaaGreatDQ014
import Derived.Test.YtkcfgbddlpomgaaGreatDQ012
set_option maxRecDepth 100000
set_option maxHeartbeats 64000000
open _root_.Go renaming World->aj,Value->aH,maxLen->aK,Calls->aM,bodyPost_ret->aR
open Go.Act renaming eval->aD,put->aG
open Go.Builtin renaming copy_->Z,append_->aB
open Go.Ending renaming returned->ah
open Go.Extern.SlicesOverlaps renaming overlaps->au
open Go.Instr renaming sliceAt->O
open Go.IntKind renaming i64->V,wrap_i64->ay
open Go.Lib renaming hid->X,run_overlaps_apart->aF
open Go.Obj renaming cells->Y
open Go.Proofs.Tryz renaming prog->K,ntmps99->aI,ntmps51->aJ,underlying3->aL,func99->aN,func51->aO,results16->aQ
open Go.RowKit.Below renaming refl->ak
open Go.Value renaming slice->D,int->U,ownBlock->aP,bool->aS
open _root_.Nat renaming le_refl->aA,lt_or_ge->aC
open _root_.Option renaming none->J,some->L
namespace Go.Proofs.YtkcfgbddlpomgaaGreat
namespace Av
open Go.RowKit Rw YtkcfgbddlpomgaaGreat.Nm Pr Bk
theorem RZ {W:aj} {b:Nat} {c:jD} (h:dJ W b (cellsD c).toArray 53):uI W (D (L ⟨b,0,J⟩) 1 1) [c] :=
 Or.inr ⟨⟨b,0,J⟩,1,rfl,by simp,by decide,uG h (by simp [ED])⟩
def zi (B:Nat) (l:List jD) (k:Nat) (c:jD) (vv:aH) (W:aj) (e:Ending) (w':aj):Prop:=∃ v',e=ah v'/\kQ w' B v' (l.take k++c::l.drop k)/\Below B W w'/\(∀ j,j<W.heap.size->L j≠vv.ownBlock->w'.heap[j]?=W.heap[j]?)
theorem GJ (B:Nat) (v:aH) (l:List jD) (c:jD) (b:Nat) (W:aj) (ho:kQ W B v l) (hx:dJ W b (cellsD c).toArray 53) (hl:l.length<=900) (hB:B<=W.heap.size) :
  aM K 99 #[v,U V (l.length:Nat),D (L ⟨b,0,J⟩) 1 1] W (zi B l l.length c v W):=by
 obtain⟨v',w',hr,ho2,hg⟩:=fT okD B ho (RZ hx) (by omega) (by simp) hB 28;have hr:(aB #[28,28] 28 #[v,D (L ⟨b,0,J⟩) 1 1]).run K W=.ok v' w':=hr;have Q:=X (show zi B l l.length c v W (ah v') w' from ⟨v',rfl,by rw [List.take_of_length_le (aA _),List.drop_of_length_le (aA _)]; exact ho2,(ak B W).grown hg hB (fun j hj=>(ho.lt j hj).1),fun j hj hne=>hg.block j hj hne⟩);obtain⟨sx,hs,_⟩:=oL okD (Row.dx ho) l.length (aA _);have hs:∀ w,(O 28 v (L (U V l.length)) J J).run K w=.ok sx w:=hs;obtain⟨ao,ac,rfl⟩:=(Row.dx ho).len;clear ho ho2 hg;generalize hn:l.length=n at *;clear hn;go_enter aN,aI;go_wp2_with (first | (at_builtin; refine wpList_append_run rfl _ _ 28 rfl rfl rfl hr ?_) | fail);go_ret;exact Q.out
theorem R6 (w:aj) (g b k la lb cb:Nat) (cur cs:Array aH) (hb:dJ w b cs 53) (hg:dJ w g cur 53) (hne:b≠g) (h0:0<cur.size):(callFunc 112 #[D (L ⟨b,0,J⟩) la 1,D (L ⟨g,k,J⟩) lb cb]).run K w=.ok (.value (aS false)) w:=by
 rw [run_callFunc_extern Tryz.func112 (by kernel_rfl) (by kernel_rfl) (by kernel_rfl) (e:=au #[28,28] #[4]) (by kernel_rfl),
  aF w 28 4 53 Tryz.underlying28 4 Tryz.sizeOf53 ⟨b,0,J⟩ ⟨g,k,J⟩ la 1 lb cb hne 53 53 cs.size cur.size hb.shape hg.shape (by omega) (hb.fr 0) (hb.fr _)]
 rfl
theorem Ba (B g n cap:Nat) (cur:Array aH) (l:List jD) (k:Nat) (c:jD) (b:Nat) (W:aj) (hn:n=l.length) (hBg:B<=g) (hg:dJ W g cur 53) (hcm:cap<=aK) (hsz:cur.size=cap * 4) (ht:cur.toList.take (n * 4)=flat ED l) (hx:dJ W b (cellsD c).toArray 53) (hne:b≠g) (hk:k<n) (hroom:n+1<=cap) (hl:n<=900) :
  aM K 99 #[D (L ⟨g,0,J⟩) n cap,U V k,D (L ⟨b,0,J⟩) 1 1] W (zi B l k c (D (L ⟨g,0,J⟩) n cap) W):=by
 obtain⟨R1,R2,r1,r2,ow⟩:=vT (E:=ED) (l:=l) (k:=k) (cap:=cap) (cur:=cur) (cs:=(cellsD c).toArray) (c:=c) okD (by omega) (by omega) hsz (by rw [<- hn]; exact ht) g b hne;have hov:=fun lb cb=>R6 W g b ((k+1) * 4) 1 lb cb cur (cellsD c).toArray hx hg hne (by omega);have s0:=jf (E:=ED) okD g k n cap (by omega) (by omega);have s1:=nM (E:=ED) okD ⟨g,0,J⟩ (n+1) n cap (by omega);have s2:=jf (E:=ED) okD g (k+1) (n+1) cap (by omega) (by omega);have s3:=jf (E:=ED) okD g k (n+1) cap (by omega) (by omega);have q1:=r1 W.drew 3 (n+1-(k+1)) (cap-(k+1)) (n+1-k) (cap-k) hg (by omega);have q2:=r2 (W.drew.setRow g R1) 3 (n+1-k) (cap-k) (dJ.set (show dJ W.drew g cur 53 from hg) R1) (dJ.other (show dJ W.drew b _ 53 from hx) hne R1) rfl (by omega);have Q:=X (show zi B l k c (D (L ⟨g,0,J⟩) n cap) W (ah (D (L ⟨g,0,J⟩) (n+1) cap)) ((W.drew.setRow g R1).setRow g R2) from ⟨_,rfl,by rw [hn]; exact ow _ B hBg hcm (dJ.set (dJ.set (show dJ W.drew g cur 53 from hg) R1) R2),below_setRow (below_setRow (ak B W).drew hBg _) hBg _,fun j hj hne=>(setRow_other _ g j _ (fun e=>hne (by rw [e]; rfl))).trans (setRow_other _ g j _ (fun e=>hne (by rw [e]; rfl)))⟩);clear r1 r2 ow hg ht hx hsz hBg hcm;change ∀ w,(O 28 (D (L ⟨g,0,J⟩) n cap) (L (U V k)) J J).run K w=.ok (D (L ⟨g,k * 4,J⟩) (n-k) (cap-k)) w at s0;change ∀ w,(O 28 (D (L ⟨g,0,J⟩) n cap) J (L (U V ((n:Int)+1))) J).run K w=.ok (D (L ⟨g,0,J⟩) (n+1) cap) w at s1;change ∀ w,(O 28 (D (L ⟨g,0,J⟩) (n+1) cap) (L (U V ((k:Int)+1))) J J).run K w=.ok (D (L ⟨g,(k+1) * 4,J⟩) (n+1-(k+1)) (cap-(k+1))) w at s2;change ∀ w,(O 28 (D (L ⟨g,0,J⟩) (n+1) cap) (L (U V k)) J J).run K w=.ok (D (L ⟨g,k * 4,J⟩) (n+1-k) (cap-k)) w at s3;have e1:((k:Int) == (n:Int))=false:=by rw [beq_eq_false_iff_ne]; omega
 have e2:decide ((cap:Int)<(n:Int)+1)=false:=by simp; omega
 change (Z #[28,28] 3 #[D (L ⟨g,(k+1) * 4,J⟩) (n+1-(k+1)) (cap-(k+1)),D (L ⟨g,k * 4,J⟩) (n+1-k) (cap-k)]).run K W.drew=.ok (U V ((l.length-k:Nat):Int)) (W.drew.setRow g R1) at q1;change (Z #[28,28] 3 #[D (L ⟨g,k * 4,J⟩) (n+1-k) (cap-k),D (L ⟨b,0,J⟩) 1 1]).run K (W.drew.setRow g R1)=.ok (U V 1) ((W.drew.setRow g R1).setRow g R2) at q2;clear hn;go_enter aN,aI;go_wp2_with (first | (simp only [hov]) | fail);clear hov s0 s1 s2 s3;have hw1:IntKind.i64.wrap ((k:Int)+1)=(k:Int)+1:=by rw [ay]; omega
 have hb1:(0:Int)<=(k:Int)+1:=by omega
 have hb0:(k:Int)+1<=(n:Int)+1:=by omega
 have htn:((k:Int)+1).toNat=k+1:=by omega
 have hb2:¬ (cap=k+1):=by omega
 have hb3:(k:Int)<=(n:Int)+1:=by omega
 have hb4:¬ (cap=k):=by omega
 have h81:n+1-(k+1)=n-k:=by omega
 rw [h81] at q1;clear h81
 go_region_law (refine jN rfl (.tmp 73) (.tmp 76) 28 rfl (v:=D (L ⟨g,(k+1) * 4,J⟩) (n-k) (cap-(k+1))) (xv:=D (L ⟨g,k * 4,J⟩) (n+1-k) (cap-k)) (by simp [aD,aG]) (by simp [aD,aG]) q1 ?_)
 all_goals simp only [Exit.then]
 all_goals apply_assumption
 clear q1 hw1 hb1 hb0 htn hb2 hb3 hb4;have s3:=jf (E:=ED) okD g k (n+1) cap (by omega) (by omega);change ∀ w,(O 28 (D (L ⟨g,0,J⟩) (n+1) cap) (L (U V k)) J J).run K w=.ok (D (L ⟨g,k * 4,J⟩) (n+1-k) (cap-k)) w at s3;go_wp2_with (first | (at_builtin; refine wpList_copy_run rfl _ _ 28 rfl rfl rfl q2 ?_) | fail);go_ret;exact Q.out
theorem Ew (B g n cap:Nat) (cur:Array aH) (l:List jD) (k:Nat) (c:jD) (b:Nat) (W:aj) (hn:n=l.length) (hg:dJ W g cur 53) (hcm:cap<=aK) (hnc:n<=cap) (ht:cur.toList.take (n * 4)=flat ED l) (hx:dJ W b (cellsD c).toArray 53) (hk:k<n) (hroom:cap<n+1) (hl:n<=900) (hB:B<=W.heap.size) :
  aM K 99 #[D (L ⟨g,0,J⟩) n cap,U V k,D (L ⟨b,0,J⟩) 1 1] W (zi B l k c (D (L ⟨g,0,J⟩) n cap) W):=by
 have hgw:=hg.lt;have hbw:=hx.lt;obtain⟨G,R1,R2,R3,hG1,hG2,r1,r2,r3,ow⟩:=yw (E:=ED) (l:=l) (k:=k) (cap:=cap) (cur:=cur) (cs:=(cellsD c).toArray) (c:=c) okD 3 aL (by omega) (by omega) (by omega) (by omega) (by rw [<- hn]; exact ht) W g b hg hbw;unfold aK at hcm hG2;have s0:=jf (E:=ED) okD g k n cap (by omega) (by omega);have s1:=nM (E:=ED) okD ⟨g,0,J⟩ k n cap (by omega);have s2:=jf (E:=ED) okD W.heap.size k (n+1) G (by omega) (by omega);have s3:=jf (E:=ED) okD W.heap.size (k+1) (n+1) G (by omega) (by omega);have a1:=r1 28;have n1:=dL W.drew R1 53;have bl:W.drew.heap.size=W.heap.size:=rfl;rw [bl] at n1;have g1:dJ (W.drew.alloc (Y R1 53)) g cur 53:=dJ.more (show dJ W.drew g cur 53 from hg) _;have x1:dJ (W.drew.alloc (Y R1 53)) b (cellsD c).toArray 53:=dJ.more (show dJ W.drew b _ 53 from hx) _;have q2:=r2 (W.drew.alloc (Y R1 53)) 3 (n+1-k) (G-k) n1 x1 rfl (by omega);have q3:=r3 ((W.drew.alloc (Y R1 53)).setRow W.heap.size R2).drew 3 (n+1-(k+1)) (G-(k+1)) (n-k) (cap-k) (dJ.set n1 R2) (dJ.other g1 (by omega) R2) (by omega);have Q:=X (show zi B l k c (D (L ⟨g,0,J⟩) n cap) W (ah (D (L ⟨W.heap.size,0,J⟩) (n+1) G)) (((W.drew.alloc (Y R1 53)).setRow W.heap.size R2).drew.setRow W.heap.size R3) from ⟨_,rfl,by rw [hn]; exact ow _ B hB (dJ.set (dJ.set n1 R2) R3),below_setRow (below_setRow ((ak B W).drew.alloc hB _) hB _).drew hB _,fun j hj _=>(setRow_other _ W.heap.size j _ (by omega)).trans ((setRow_other _ W.heap.size j _ (by omega)).trans (Array.getElem?_push_lt hj |>.trans (Array.getElem?_eq_getElem hj).symm))⟩);have l1:l.length+1=n+1:=by rw [hn]
 rw [l1,<- hn] at a1;clear r1 r2 r3 ow hg ht hx g1 x1 n1 bl l1;change ∀ w,(O 28 (D (L ⟨g,0,J⟩) n cap) (L (U V k)) J J).run K w=.ok (D (L ⟨g,k * 4,J⟩) (n-k) (cap-k)) w at s0;change ∀ w,(O 28 (D (L ⟨g,0,J⟩) n cap) J (L (U V k)) J).run K w=.ok (D (L ⟨g,0,J⟩) k cap) w at s1;change ∀ w,(O 28 (D (L ⟨W.heap.size,0,J⟩) (n+1) G) (L (U V k)) J J).run K w=.ok (D (L ⟨W.heap.size,k * 4,J⟩) (n+1-k) (G-k)) w at s2;change ∀ w,(O 28 (D (L ⟨W.heap.size,0,J⟩) (n+1) G) (L (U V ((k:Int)+1))) J J).run K w=.ok (D (L ⟨W.heap.size,(k+1) * 4,J⟩) (n+1-(k+1)) (G-(k+1))) w at s3;change (aB #[28,3] 28 #[D (L ⟨g,0,J⟩) k cap,U V ((n:Int)+1-k)]).run K W=.ok (D (L ⟨W.heap.size,0,J⟩) (n+1) G) (W.drew.alloc (Y R1 53)) at a1;change (Z #[28,28] 3 #[D (L ⟨W.heap.size,k * 4,J⟩) (n+1-k) (G-k),D (L ⟨b,0,J⟩) 1 1]).run K (W.drew.alloc (Y R1 53))=.ok (U V 1) ((W.drew.alloc (Y R1 53)).setRow W.heap.size R2) at q2;change (Z #[28,28] 3 #[D (L ⟨W.heap.size,(k+1) * 4,J⟩) (n+1-(k+1)) (G-(k+1)),D (L ⟨g,k * 4,J⟩) (n-k) (cap-k)]).run K ((W.drew.alloc (Y R1 53)).setRow W.heap.size R2).drew=.ok (U V ((l.length-k:Nat):Int)) (((W.drew.alloc (Y R1 53)).setRow W.heap.size R2).drew.setRow W.heap.size R3) at q3;have e1:((k:Int) == (n:Int))=false:=by rw [beq_eq_false_iff_ne]; omega
 have e2:decide ((cap:Int)<(n:Int)+1)=true:=by simp; omega
 have hGn:n+1<=G:=by omega
 clear hn;generalize W.heap.size=N at *;generalize W.drew.alloc (Y R1 53)=W1 at *;generalize W1.setRow N R2=W2 at *;go_enter aN,aI;go_wp2_with (first | (at_builtin; refine kP rfl _ _ 28 3 rfl rfl rfl a1 ?_) | (at_builtin; refine wpList_copy_run rfl _ _ 28 rfl rfl rfl q2 ?_) | fail);clear a1 q2 s0 s1 s2 s3;have hw1:IntKind.i64.wrap ((k:Int)+1)=(k:Int)+1:=by rw [ay]; omega
 have hb1:(0:Int)<=(k:Int)+1:=by omega
 have hb0:(k:Int)+1<=(n:Int)+1:=by omega
 have htn:((k:Int)+1).toNat=k+1:=by omega
 have hb2:¬ (G=k+1):=by omega
 have hb3:(k:Int)<=(n:Int):=by omega
 have hb4:¬ (cap=k):=by omega
 have h81:n+1-(k+1)=n-k:=by omega
 rw [h81] at q3;clear h81
 go_region_law (refine jN rfl (.tmp 50) (.tmp 53) 28 rfl (v:=D (L ⟨N,(k+1) * 4,J⟩) (n-k) (G-(k+1))) (xv:=D (L ⟨g,k * 4,J⟩) (n-k) (cap-k)) (by simp [aD,aG]) (by simp [aD,aG]) q3 ?_)
 all_goals simp only [Exit.then]
 all_goals apply_assumption
 go_wp2;go_ret;exact Q.out
theorem GK (B:Nat) (v:aH) (l:List jD) (k:Nat) (c:jD) (b:Nat) (W:aj) (ho:kQ W B v l) (hx:dJ W b (cellsD c).toArray 53) (hne:v.ownBlock≠L b) (hk:k<=l.length) (hl:l.length<=900) (hB:B<=W.heap.size) :
  aM K 99 #[v,U V k,D (L ⟨b,0,J⟩) 1 1] W (zi B l k c v W):=by
 rcases aC k l.length with h|h
 ·rcases iT ho with⟨_,h2⟩|⟨g,cap,cur,rfl,h1,h2,h3,h4,h5,h6⟩
  ·rw [h2] at h; simp at h
  ·rcases aC cap (l.length+1) with h7|h7
   ·exact Ew B g _ cap cur l k c b W rfl h2 h4 h3 h6 hx h h7 hl hB
   ·exact Ba B g _ cap cur l k c b W rfl h1 h2 h4 h5 h6 hx (fun e=>hne (by simp [aP,e])) h h7 hl
 ·obtain rfl:k=l.length:=by omega
  exact GJ B v l c b W ho hx hl hB
end Av
namespace Av
open Go.RowKit Go.Sort Rw YtkcfgbddlpomgaaGreat.Nm Pr Bk
def fV (l:List Ad) (x:eO):Option Ad:=l.find? fun a=>decide (a.id=x)
theorem uo {l:List Ad} {x:eO} (h:∀ (j:Nat) (a:Ad),l[j]?=L a->a.id≠x):fV l x=J:=by
 unfold fV;rw [List.find?_eq_none];intro a ha;obtain⟨j,hj⟩:=List.mem_iff_getElem?.1 ha;simpa using h j a hj
theorem rM:∀ {l:List Ad} {x:eO} {k:Nat} {a:Ad},l[k]?=L a->a.id=x->(∀ (j:Nat) (z:Ad),j<k->l[j]?=L z->z.id≠x)->fV l x=L a
 | [],_,_,_,h,_,_=>by simp at h
 | b::l,x,0,a,h,hx,_=>by
  obtain rfl:b=a:=by simpa using h
  simp [fV,hx]
 | b::l,x,k+1,a,h,hx,hall=>by
  have hb:=hall 0 b (by omega) rfl;have ih:=rM (l:=l) (x:=x) (k:=k) (a:=a) (by simpa using h) hx fun j z hj hz=>hall (j+1) z (by omega) (by simpa using hz);unfold fV at *;rw [List.find?_cons_of_neg (by simpa using hb)];exact ih
def Yz (W:aj) (o:Option Ad) (w:aj) (e:Ending) (w':aj):Prop:=(match o with
 | none=>e=ah (.tuple #[lV (0,0,(J,0,0),0),aS false])
 | some a=>∃ r:jD,e=ah (.tuple #[lV r,aS true])/\uJ w' r a)/\Below W.heap.size w w'
theorem zk (me:Int) (nv sv ev ov:aH) (av:Sl) (l:List jD) (al:List Ad) (x:eO) (w:aj) (hs:uI w (dR av) l) (hA:eB (uJ w) l al) (hf:∀ a∈al,a.p.length<=900) :
  aM K 16 #[.agg #[U V me,nv,dR av,sv,ev,ov],mD x] w (Yz w (fV al x) w):=by
 obtain⟨c,d⟩:=x;obtain⟨so,sn,sc⟩:=av;obtain⟨ao,ac,hv⟩:=hs.len;have hv:D so sn sc=D ao l.length ac:=hv;obtain⟨rfl,rfl,rfl⟩:so=ao/\sn=l.length/\sc=ac:=by simpa using hv
 obtain⟨h0,h1,h2⟩:=gK w #[U V me,nv,D so l.length sc,sv,ev,ov] #[U V c,U V d] 33 38;have h3:=fE ((w.alloc (Y #[U V me,nv,D so l.length sc,sv,ev,ov] 33)).alloc (Y #[U V c,U V d] 38)) (Y #[U V 0,U V 0,D J 0 0,U V 0] 53);have h4:=dL ((w.alloc (Y #[U V me,nv,D so l.length sc,sv,ev,ov] 33)).alloc (Y #[U V c,U V d] 38)) #[U V 0,U V 0,D J 0 0,U V 0] 53;have hsz:((w.alloc (Y #[U V me,nv,D so l.length sc,sv,ev,ov] 33)).alloc (Y #[U V c,U V d] 38)).heap.size=w.heap.size+1+1:=by simp
 rw [hsz] at h4;have B:=X (h0.trans (h3.mono h0.size));have HS:=X (hs.on B.out);have HA:=X (hA.mono fun _ _ h=>h.on B.out);have X2:=X (h1.on h3);have X3:=X (h2.on h3);have X4:=X h4;have HF:=X hf;have lm:=hs.most;unfold aK at lm;obtain⟨n,hn⟩:∃ n,n=l.length:=⟨_,rfl⟩;have q3:=X2.out.cell 2;simp only [List.getElem?_toArray,List.getElem?_cons_zero,List.getElem?_cons_succ] at q3;rw [<- hn] at HS X2 X3 X4 HA lm q3 B ⊢;have HN:=X hn.symm;obtain⟨fo,hfo⟩:∃ o,o=fV al (c,d):=⟨_,rfl⟩;rw [<- hfo];have FO:=X hfo;clear h0 h1 h2 h3 h4 hs hv hn hA hf hsz hfo;go_enter Tryz.func16,Tryz.ntmps16;go_upto_region 1 with fail;generalize ((w.alloc (Y #[U V me,nv,D so n sc,sv,ev,ov] 33)).alloc (Y #[U V c,U V d] 38)).alloc (Y #[U V 0,U V 0,D J 0 0,U V 0] 53)=W at *;go_wp2
 go_loopw [11] (fun i wr=>∃ k:Nat,k<=n/\i=U V k/\Below W.heap.size W wr/\∀ (j:Nat) (y:jD),j<k->l[j]?=L y->(y.1,y.2.1)≠(c,d)) (fun i _=>n-(intOf i).toNat)
 case atStart=>exact⟨0,Nat.zero_le _,rfl,ak _ _,fun j y h=>by omega⟩
 case round =>
  obtain⟨k,hk,rfl,hbe,hall⟩:=hrel;have BE:=X hbe;have AL:=X hall;clear hbe hall;by_cases hlt:k<n
  ·obtain⟨y,hy⟩:∃ y,l[k]?=L y:=⟨_,List.getElem?_eq_getElem (by rw [HN.out]; exact hlt)⟩;obtain⟨p,ix,px⟩:=VQ HS.out rfl HN.out hy;obtain⟨p0,p1,p2,p3⟩:=px wr BE.out;obtain⟨y1,y2,⟨yo,yn,yc⟩,y4⟩:=y;simp only at p0 p1 p2 p3;have NB:=X (fE wr (Y #[U V y1,U V y2,D yo yn yc,U V y4] 53));obtain⟨x0,x1⟩:=((X3.out.on BE.out).on NB.out).cs2;have hw3:IntKind.i64.wrap ((k:Int)+1)=(k:Int)+1:=IntWalk.i64_in _ (by omega);obtain⟨r,hr⟩:∃ r,(y1 == c && y2 == d)=r:=⟨_,rfl⟩;have he:=rz y1 y2 c d r hr;have HY:=X hy;have HR:=X hr;clear px hy hr;cases r
   ·go_wp2
    go_roundw
    case rel=>exact⟨k+1,by omega,by go_num,BE.out.trans (NB.out.mono BE.out.size),fun j y' hj h1=>by
     rcases aC j k with h3|h3
     ·exact AL.out j y' h3 h1
     ·obtain rfl:j=k:=by omega
      have e1:=HY.out;rw [h1] at e1;rw [Option.some.inj e1];intro e;obtain⟨rfl,rfl⟩:y1=c/\y2=d:=by simpa using e
      have:=HR.out;simp at this⟩
    case measure=>simp [intOf]; omega
   ·obtain⟨a,ha⟩:∃ a,al[k]?=L a:=⟨_,List.getElem?_eq_getElem (by rw [<- HA.out.len,HN.out]; exact hlt)⟩;obtain⟨z,hz1,hz2⟩:=HA.out.at k a ha;rw [HY.out] at hz1;obtain rfl:=Option.some.inj hz1;have BA:=X (BE.out.trans (NB.out.mono BE.out.size));have C:=X (yR (y1,y2,(yo,yn,yc),y4) a.p _ (hz2.2.2.on BA.out) (HF.out a (List.mem_of_getElem? ha)));have HZ:=X hz2;have h8:=HR.out;obtain⟨rfl,rfl⟩:y1=c/\y2=d:=by simpa using h8
    have FA:=X (show fo=L a by
     rw [FO.out];refine rM ha hz2.1.symm fun j z hj hzz=>?_;obtain⟨u,hu1,hu2⟩:=HA.out.at j z hzz;rw [<- hu2.1];exact AL.out j u hj hu1)
    have Jr:=(X4.out.on BE.out).on NB.out;clear hz1 hz2 ha h8;go_wp2_with fail;refine C.out.mono ?_;rintro e w1 ⟨⟨⟨u1,u2,u3⟩,rfl,ho⟩,hb⟩;have Y1:=Jr.on hb;have B1:=X (BA.out.trans (hb.mono BA.out.size));obtain⟨r0,r1,r2,r3⟩:=Y1.I8;obtain⟨t0,t1,t2,t3⟩:=Y1.fs4;have zz:=Y1.lt;have hs2:w.heap.size+1+1<(wr.alloc (Y #[U V y1,U V y2,D yo yn yc,U V y4] 53)).heap.size:=Jr.lt;have FB:=X (yQ Y1 (U V y1) (U V y2) (D u1 u2 u3) (U V y4));have BL:=X (ug (b:=w.heap.size+1+1) (B.out.trans (B1.out.mono B.out.size)) (by omega) (U V y1) (U V y2) (D u1 u2 u3) (U V y4));have FW:=X (Gi ho (w.heap.size+1+1) hs2 (U V y1) (U V y2) (D u1 u2 u3) (U V y4));clear Y1 ho hb hs2 Jr;go_wp2_with fail;obtain⟨v0,v1,v2,v3⟩:=FB.out.I8;refine aR (v:=.tuple #[.agg #[U V y1,U V y2,D u1 u2 u3,U V y4],aS true]) (by simp [results,aQ,go_sem,v0,v1,v2,v3]) rfl ?_;rw [FA.out];exact⟨⟨(y1,y2,(u1,u2,u3),y4),rfl,HZ.out.1,HZ.out.2.1,Row.dx FW.out⟩,BL.out⟩
  ·obtain rfl:k=n:=by omega
   have FA:=X (show fo=J by
    rw [FO.out];refine uo fun j z hzz=>?_;obtain⟨u,hu1,hu2⟩:=HA.out.at j z hzz;rw [<- hu2.1];exact AL.out j u (by rw [<- HN.out]; exact (List.getElem?_eq_some_iff.1 hu1).1) hu1)
   have Y1:=X4.out.on BE.out;obtain⟨r0,r1,r2,r3⟩:=Y1.I8;obtain⟨t0,t1,t2,t3⟩:=Y1.fs4;have zz:=Y1.lt;have FB:=X (yQ Y1 (U V 0) (U V 0) (D J 0 0) (U V 0));have BL:=X (ug (b:=w.heap.size+1+1) (B.out.trans (BE.out.mono B.out.size)) (by omega) (U V 0) (U V 0) (D J 0 0) (U V 0));clear Y1;go_wp2_with fail;obtain⟨v0,v1,v2,v3⟩:=FB.out.I8;refine aR (v:=.tuple #[.agg #[U V 0,U V 0,D J 0 0,U V 0],aS false]) (by simp [results,aQ,go_sem,v0,v1,v2,v3]) rfl ?_;rw [FA.out];exact⟨rfl,BL.out⟩
theorem R7 {W:aj} {b:Nat} {c:iA} (h:dJ W b (iG c).toArray 68):jZ W (D (L ⟨b,0,J⟩) 1 1) [c] :=
 Or.inr ⟨⟨b,0,J⟩,1,rfl,by simp,by decide,uG h (by simp [EN])⟩
def zm (B:Nat) (l:List iA) (k:Nat) (c:iA) (vv:aH) (W:aj) (e:Ending) (w':aj):Prop:=∃ v',e=ah v'/\jg w' B v' (l.take k++c::l.drop k)/\Below B W w'/\(∀ j,j<W.heap.size->L j≠vv.ownBlock->w'.heap[j]?=W.heap[j]?)
theorem GQ (B:Nat) (v:aH) (l:List iA) (c:iA) (b:Nat) (W:aj) (ho:jg W B v l) (hx:dJ W b (iG c).toArray 68) (hl:l.length<=900) (hB:B<=W.heap.size) :
  aM K 51 #[v,U V (l.length:Nat),D (L ⟨b,0,J⟩) 1 1] W (zm B l l.length c v W):=by
 obtain⟨v',w',hr,ho2,hg⟩:=fT mY B ho (R7 hx) (by omega) (by simp) hB 30;have hr:(aB #[30,30] 30 #[v,D (L ⟨b,0,J⟩) 1 1]).run K W=.ok v' w':=hr;have Q:=X (show zm B l l.length c v W (ah v') w' from ⟨v',rfl,by rw [List.take_of_length_le (aA _),List.drop_of_length_le (aA _)]; exact ho2,(ak B W).grown hg hB (fun j hj=>(ho.lt j hj).1),fun j hj hne=>hg.block j hj hne⟩);obtain⟨sx,hs,_⟩:=oL mY (Row.dx ho) l.length (aA _);have hs:∀ w,(O 30 v (L (U V l.length)) J J).run K w=.ok sx w:=hs;obtain⟨ao,ac,rfl⟩:=(Row.dx ho).len;clear ho ho2 hg;generalize hn:l.length=n at *;clear hn;go_enter aO,aJ;go_wp2_with (first | (at_builtin; refine wpList_append_run rfl _ _ 30 rfl rfl rfl hr ?_) | fail);go_ret;exact Q.out
theorem R8 (w:aj) (g b k la lb cb:Nat) (cur cs:Array aH) (hb:dJ w b cs 68) (hg:dJ w g cur 68) (hne:b≠g) (h0:0<cur.size):(callFunc 88 #[D (L ⟨b,0,J⟩) la 1,D (L ⟨g,k,J⟩) lb cb]).run K w=.ok (.value (aS false)) w:=by
 rw [run_callFunc_extern Tryz.func88 (by kernel_rfl) (by kernel_rfl) (by kernel_rfl) (e:=au #[30,30] #[4]) (by kernel_rfl),
  aF w 30 4 68 Tryz.underlying30 7 Tryz.sizeOf68 ⟨b,0,J⟩ ⟨g,k,J⟩ la 1 lb cb hne 68 68 cs.size cur.size hb.shape hg.shape (by omega) (hb.fr 0) (hb.fr _)]
 rfl
theorem Bb (B g n cap:Nat) (cur:Array aH) (l:List iA) (k:Nat) (c:iA) (b:Nat) (W:aj) (hn:n=l.length) (hBg:B<=g) (hg:dJ W g cur 68) (hcm:cap<=aK) (hsz:cur.size=cap * 7) (ht:cur.toList.take (n * 7)=flat EN l) (hx:dJ W b (iG c).toArray 68) (hne:b≠g) (hk:k<n) (hroom:n+1<=cap) (hl:n<=900) :
  aM K 51 #[D (L ⟨g,0,J⟩) n cap,U V k,D (L ⟨b,0,J⟩) 1 1] W (zm B l k c (D (L ⟨g,0,J⟩) n cap) W):=by
 obtain⟨R1,R2,r1,r2,ow⟩:=vT (E:=EN) (l:=l) (k:=k) (cap:=cap) (cur:=cur) (cs:=(iG c).toArray) (c:=c) mY (by omega) (by omega) hsz (by rw [<- hn]; exact ht) g b hne;have hov:=fun lb cb=>R8 W g b ((k+1) * 7) 1 lb cb cur (iG c).toArray hx hg hne (by omega);have s0:=jf (E:=EN) mY g k n cap (by omega) (by omega);have s1:=nM (E:=EN) mY ⟨g,0,J⟩ (n+1) n cap (by omega);have s2:=jf (E:=EN) mY g (k+1) (n+1) cap (by omega) (by omega);have s3:=jf (E:=EN) mY g k (n+1) cap (by omega) (by omega);have q1:=r1 W.drew 3 (n+1-(k+1)) (cap-(k+1)) (n+1-k) (cap-k) hg (by omega);have q2:=r2 (W.drew.setRow g R1) 3 (n+1-k) (cap-k) (dJ.set (show dJ W.drew g cur 68 from hg) R1) (dJ.other (show dJ W.drew b _ 68 from hx) hne R1) rfl (by omega);have Q:=X (show zm B l k c (D (L ⟨g,0,J⟩) n cap) W (ah (D (L ⟨g,0,J⟩) (n+1) cap)) ((W.drew.setRow g R1).setRow g R2) from ⟨_,rfl,by rw [hn]; exact ow _ B hBg hcm (dJ.set (dJ.set (show dJ W.drew g cur 68 from hg) R1) R2),below_setRow (below_setRow (ak B W).drew hBg _) hBg _,fun j hj hne=>(setRow_other _ g j _ (fun e=>hne (by rw [e]; rfl))).trans (setRow_other _ g j _ (fun e=>hne (by rw [e]; rfl)))⟩);clear r1 r2 ow hg ht hx hsz hBg hcm;change ∀ w,(O 30 (D (L ⟨g,0,J⟩) n cap) (L (U V k)) J J).run K w=.ok (D (L ⟨g,k * 7,J⟩) (n-k) (cap-k)) w at s0;change ∀ w,(O 30 (D (L ⟨g,0,J⟩) n cap) J (L (U V ((n:Int)+1))) J).run K w=.ok (D (L ⟨g,0,J⟩) (n+1) cap) w at s1;change ∀ w,(O 30 (D (L ⟨g,0,J⟩) (n+1) cap) (L (U V ((k:Int)+1))) J J).run K w=.ok (D (L ⟨g,(k+1) * 7,J⟩) (n+1-(k+1)) (cap-(k+1))) w at s2;change ∀ w,(O 30 (D (L ⟨g,0,J⟩) (n+1) cap) (L (U V k)) J J).run K w=.ok (D (L ⟨g,k * 7,J⟩) (n+1-k) (cap-k)) w at s3;have e1:((k:Int) == (n:Int))=false:=by rw [beq_eq_false_iff_ne]; omega
 have e2:decide ((cap:Int)<(n:Int)+1)=false:=by simp; omega
 change (Z #[30,30] 3 #[D (L ⟨g,(k+1) * 7,J⟩) (n+1-(k+1)) (cap-(k+1)),D (L ⟨g,k * 7,J⟩) (n+1-k) (cap-k)]).run K W.drew=.ok (U V ((l.length-k:Nat):Int)) (W.drew.setRow g R1) at q1;change (Z #[30,30] 3 #[D (L ⟨g,k * 7,J⟩) (n+1-k) (cap-k),D (L ⟨b,0,J⟩) 1 1]).run K (W.drew.setRow g R1)=.ok (U V 1) ((W.drew.setRow g R1).setRow g R2) at q2;clear hn;go_enter aO,aJ;go_wp2_with (first | (simp only [hov]) | fail);clear hov s0 s1 s2 s3;have hw1:IntKind.i64.wrap ((k:Int)+1)=(k:Int)+1:=by rw [ay]; omega
 have hb1:(0:Int)<=(k:Int)+1:=by omega
 have hb0:(k:Int)+1<=(n:Int)+1:=by omega
 have htn:((k:Int)+1).toNat=k+1:=by omega
 have hb2:¬ (cap=k+1):=by omega
 have hb3:(k:Int)<=(n:Int)+1:=by omega
 have hb4:¬ (cap=k):=by omega
 have h81:n+1-(k+1)=n-k:=by omega
 rw [h81] at q1;clear h81
 go_region_law (refine jN rfl (.tmp 73) (.tmp 76) 30 rfl (v:=D (L ⟨g,(k+1) * 7,J⟩) (n-k) (cap-(k+1))) (xv:=D (L ⟨g,k * 7,J⟩) (n+1-k) (cap-k)) (by simp [aD,aG]) (by simp [aD,aG]) q1 ?_)
 all_goals simp only [Exit.then]
 all_goals apply_assumption
 clear q1 hw1 hb1 hb0 htn hb2 hb3 hb4;have s3:=jf (E:=EN) mY g k (n+1) cap (by omega) (by omega);change ∀ w,(O 30 (D (L ⟨g,0,J⟩) (n+1) cap) (L (U V k)) J J).run K w=.ok (D (L ⟨g,k * 7,J⟩) (n+1-k) (cap-k)) w at s3;go_wp2_with (first | (at_builtin; refine wpList_copy_run rfl _ _ 30 rfl rfl rfl q2 ?_) | fail);go_ret;exact Q.out
theorem Ey (B g n cap:Nat) (cur:Array aH) (l:List iA) (k:Nat) (c:iA) (b:Nat) (W:aj) (hn:n=l.length) (hg:dJ W g cur 68) (hcm:cap<=aK) (hnc:n<=cap) (ht:cur.toList.take (n * 7)=flat EN l) (hx:dJ W b (iG c).toArray 68) (hk:k<n) (hroom:cap<n+1) (hl:n<=900) (hB:B<=W.heap.size) :
  aM K 51 #[D (L ⟨g,0,J⟩) n cap,U V k,D (L ⟨b,0,J⟩) 1 1] W (zm B l k c (D (L ⟨g,0,J⟩) n cap) W):=by
 have hgw:=hg.lt;have hbw:=hx.lt;obtain⟨G,R1,R2,R3,hG1,hG2,r1,r2,r3,ow⟩:=yw (E:=EN) (l:=l) (k:=k) (cap:=cap) (cur:=cur) (cs:=(iG c).toArray) (c:=c) mY 3 aL (by omega) (by omega) (by omega) (by omega) (by rw [<- hn]; exact ht) W g b hg hbw;unfold aK at hcm hG2;have s0:=jf (E:=EN) mY g k n cap (by omega) (by omega);have s1:=nM (E:=EN) mY ⟨g,0,J⟩ k n cap (by omega);have s2:=jf (E:=EN) mY W.heap.size k (n+1) G (by omega) (by omega);have s3:=jf (E:=EN) mY W.heap.size (k+1) (n+1) G (by omega) (by omega);have a1:=r1 30;have n1:=dL W.drew R1 68;have bl:W.drew.heap.size=W.heap.size:=rfl;rw [bl] at n1;have g1:dJ (W.drew.alloc (Y R1 68)) g cur 68:=dJ.more (show dJ W.drew g cur 68 from hg) _;have x1:dJ (W.drew.alloc (Y R1 68)) b (iG c).toArray 68:=dJ.more (show dJ W.drew b _ 68 from hx) _;have q2:=r2 (W.drew.alloc (Y R1 68)) 3 (n+1-k) (G-k) n1 x1 rfl (by omega);have q3:=r3 ((W.drew.alloc (Y R1 68)).setRow W.heap.size R2).drew 3 (n+1-(k+1)) (G-(k+1)) (n-k) (cap-k) (dJ.set n1 R2) (dJ.other g1 (by omega) R2) (by omega);have Q:=X (show zm B l k c (D (L ⟨g,0,J⟩) n cap) W (ah (D (L ⟨W.heap.size,0,J⟩) (n+1) G)) (((W.drew.alloc (Y R1 68)).setRow W.heap.size R2).drew.setRow W.heap.size R3) from ⟨_,rfl,by rw [hn]; exact ow _ B hB (dJ.set (dJ.set n1 R2) R3),below_setRow (below_setRow ((ak B W).drew.alloc hB _) hB _).drew hB _,fun j hj _=>(setRow_other _ W.heap.size j _ (by omega)).trans ((setRow_other _ W.heap.size j _ (by omega)).trans (Array.getElem?_push_lt hj |>.trans (Array.getElem?_eq_getElem hj).symm))⟩);have l1:l.length+1=n+1:=by rw [hn]
 rw [l1,<- hn] at a1;clear r1 r2 r3 ow hg ht hx g1 x1 n1 bl l1;change ∀ w,(O 30 (D (L ⟨g,0,J⟩) n cap) (L (U V k)) J J).run K w=.ok (D (L ⟨g,k * 7,J⟩) (n-k) (cap-k)) w at s0;change ∀ w,(O 30 (D (L ⟨g,0,J⟩) n cap) J (L (U V k)) J).run K w=.ok (D (L ⟨g,0,J⟩) k cap) w at s1;change ∀ w,(O 30 (D (L ⟨W.heap.size,0,J⟩) (n+1) G) (L (U V k)) J J).run K w=.ok (D (L ⟨W.heap.size,k * 7,J⟩) (n+1-k) (G-k)) w at s2;change ∀ w,(O 30 (D (L ⟨W.heap.size,0,J⟩) (n+1) G) (L (U V ((k:Int)+1))) J J).run K w=.ok (D (L ⟨W.heap.size,(k+1) * 7,J⟩) (n+1-(k+1)) (G-(k+1))) w at s3;change (aB #[30,3] 30 #[D (L ⟨g,0,J⟩) k cap,U V ((n:Int)+1-k)]).run K W=.ok (D (L ⟨W.heap.size,0,J⟩) (n+1) G) (W.drew.alloc (Y R1 68)) at a1;change (Z #[30,30] 3 #[D (L ⟨W.heap.size,k * 7,J⟩) (n+1-k) (G-k),D (L ⟨b,0,J⟩) 1 1]).run K (W.drew.alloc (Y R1 68))=.ok (U V 1) ((W.drew.alloc (Y R1 68)).setRow W.heap.size R2) at q2;change (Z #[30,30] 3 #[D (L ⟨W.heap.size,(k+1) * 7,J⟩) (n+1-(k+1)) (G-(k+1)),D (L ⟨g,k * 7,J⟩) (n-k) (cap-k)]).run K ((W.drew.alloc (Y R1 68)).setRow W.heap.size R2).drew=.ok (U V ((l.length-k:Nat):Int)) (((W.drew.alloc (Y R1 68)).setRow W.heap.size R2).drew.setRow W.heap.size R3) at q3;have e1:((k:Int) == (n:Int))=false:=by rw [beq_eq_false_iff_ne]; omega
 have e2:decide ((cap:Int)<(n:Int)+1)=true:=by simp; omega
 have hGn:n+1<=G:=by omega
 clear hn;generalize W.heap.size=N at *;generalize W.drew.alloc (Y R1 68)=W1 at *;generalize W1.setRow N R2=W2 at *;go_enter aO,aJ;go_wp2_with (first | (at_builtin; refine kP rfl _ _ 30 3 rfl rfl rfl a1 ?_) | (at_builtin; refine wpList_copy_run rfl _ _ 30 rfl rfl rfl q2 ?_) | fail);clear a1 q2 s0 s1 s2 s3;have hw1:IntKind.i64.wrap ((k:Int)+1)=(k:Int)+1:=by rw [ay]; omega
 have hb1:(0:Int)<=(k:Int)+1:=by omega
 have hb0:(k:Int)+1<=(n:Int)+1:=by omega
 have htn:((k:Int)+1).toNat=k+1:=by omega
 have hb2:¬ (G=k+1):=by omega
 have hb3:(k:Int)<=(n:Int):=by omega
 have hb4:¬ (cap=k):=by omega
 have h81:n+1-(k+1)=n-k:=by omega
 rw [h81] at q3;clear h81
 go_region_law (refine jN rfl (.tmp 50) (.tmp 53) 30 rfl (v:=D (L ⟨N,(k+1) * 7,J⟩) (n-k) (G-(k+1))) (xv:=D (L ⟨g,k * 7,J⟩) (n-k) (cap-k)) (by simp [aD,aG]) (by simp [aD,aG]) q3 ?_)
 all_goals simp only [Exit.then]
 all_goals apply_assumption
 go_wp2;go_ret;exact Q.out
theorem xE (B:Nat) (v:aH) (l:List iA) (k:Nat) (c:iA) (b:Nat) (W:aj) (ho:jg W B v l) (hx:dJ W b (iG c).toArray 68) (hne:v.ownBlock≠L b) (hk:k<=l.length) (hl:l.length<=900) (hB:B<=W.heap.size) :
  aM K 51 #[v,U V k,D (L ⟨b,0,J⟩) 1 1] W (zm B l k c v W):=by
 rcases aC k l.length with h|h
 ·rcases iT ho with⟨_,h2⟩|⟨g,cap,cur,rfl,h1,h2,h3,h4,h5,h6⟩
  ·rw [h2] at h; simp at h
  ·rcases aC cap (l.length+1) with h7|h7
   ·exact Ey B g _ cap cur l k c b W rfl h2 h4 h3 h6 hx h h7 hl hB
   ·exact Bb B g _ cap cur l k c b W rfl h1 h2 h4 h5 h6 hx (fun e=>hne (by simp [aP,e])) h h7 hl
 ·obtain rfl:k=l.length:=by omega
  exact GQ B v l c b W ho hx hl hB
end Av
end Go.Proofs.YtkcfgbddlpomgaaGreat
