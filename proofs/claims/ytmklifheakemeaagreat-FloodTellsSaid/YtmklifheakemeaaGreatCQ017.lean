/-
  slices.Insert of one. Conditions as told.
-/
import Derived.Maps.OwnSet
import Derived.DeepKeys4
import Derived.KernelRfl
import Derived.Test.YtmklifheakemeaaGreatCQ011
import Derived.Test.YtmklifheakemeaaGreatCQ016
set_option maxRecDepth 100000
set_option maxHeartbeats 64000000
open _root_.Bool renaming false->aj,true->aP
open Go.Builtin renaming copy_->aA,append_->aM
open Go.Ending renaming returned->aB
open Go.Instr renaming sliceAt->U
open Go.IntKind renaming i64->X,wrap_i64->aI
open Go.Lib renaming hid->D,toList_data->aN
open Go.Obj renaming cells->ah
open Go.Proofs.Tryz renaming prog->L,ntmps145->aD,func145->aF,ntmps51->aO,func51->aQ
open Go.RowKit.Below renaming refl->ak
open Go.Value renaming slice->J,int->V,string->Y,bool->aR
open _root_.List renaming getElem?_eq_getElem->Z,length_map->ay,take_add_one->aG,getElem?_map->aH,take_length->aJ
open _root_.Nat renaming lt_or_ge->aC,le_refl->aK,zero_le->aL
open _root_.Option renaming none->K,some->O
open Option.some renaming inj->au
namespace Go.Proofs.YtmklifheakemeaaGreat
namespace Av
open Go.RowKit Rw YtmklifheakemeaaGreat.Nm Pr Bk
theorem UJ {W:World} {b:Nat} {c:fD} (h:dJ W b (jY c).toArray 31):wB W (J (O ⟨b,0,K⟩) 1 1) [c] :=
 Or.inr ⟨⟨b,0,K⟩,1,rfl,by simp,by decide,uM h (by simp [EJ])⟩
def Cb (B:Nat) (l:List fD) (k:Nat) (c:fD) (vv:Value) (W:World) (e:Ending) (w':World):Prop:=∃ v',e=aB v'/\sD w' B v' (l.take k++c::l.drop k)/\Below B W w'/\(∀ j,j<W.heap.size->O j≠vv.ownBlock->w'.heap[j]?=W.heap[j]?)
theorem Jz (B:Nat) (v:Value) (l:List fD) (c:fD) (b:Nat) (W:World) (ho:sD W B v l) (hx:dJ W b (jY c).toArray 31) (hl:l.length<=900) (hB:B<=W.heap.size) :
  Calls L 145 #[v,V X (l.length:Nat),J (O ⟨b,0,K⟩) 1 1] W (Cb B l l.length c v W):=by
 obtain⟨v',w',hr,ho2,hg⟩:=gY Ba B ho (UJ hx) (by omega) (by simp) hB 24;have hr:(aM #[24,24] 24 #[v,J (O ⟨b,0,K⟩) 1 1]).run L W=.ok v' w':=hr;have Q:=D (show Cb B l l.length c v W (aB v') w' from ⟨v',rfl,by rw [List.take_of_length_le (aK _),List.drop_of_length_le (aK _)]; exact ho2,(ak B W).grown hg hB (fun j hj=>(ho.lt j hj).1),fun j hj hne=>hg.block j hj hne⟩);obtain⟨sx,hs,_⟩:=qE Ba (Row.dH ho) l.length (aK _);have hs:∀ w,(U 24 v (O (V X l.length)) K K).run L w=.ok sx w:=hs;obtain⟨ao,ac,rfl⟩:=(Row.dH ho).len;clear ho ho2 hg;generalize hn:l.length=n at *;clear hn;go_enter aF,aD;go_wp2_with (first | (at_builtin; refine wpList_append_run rfl _ _ 24 rfl rfl rfl hr ?_) | fail);go_ret;exact Q.out
theorem UM (w:World) (g b k la lb cb:Nat) (cur cs:Array Value) (hb:dJ w b cs 31) (hg:dJ w g cur 31) (hne:b≠g) (h0:0<cur.size):(callFunc 168 #[J (O ⟨b,0,K⟩) la 1,J (O ⟨g,k,K⟩) lb cb]).run L w=.ok (.value (aR aj)) w:=by
 rw [run_callFunc_extern Tryz.func168 (by kernel_rfl) (by kernel_rfl) (by kernel_rfl) (e:=Extern.SlicesOverlaps.overlaps #[24,24] #[4]) (by kernel_rfl),
  Lib.run_overlaps_apart w 24 4 31 Tryz.underlying24 2 Tryz.sizeOf31 ⟨b,0,K⟩ ⟨g,k,K⟩ la 1 lb cb hne 31 31 cs.size cur.size hb.shape hg.shape (by omega) (hb.fr 0) (hb.fr _)]
 rfl
theorem DX (B g n cap:Nat) (cur:Array Value) (l:List fD) (k:Nat) (c:fD) (b:Nat) (W:World) (hn:n=l.length) (hBg:B<=g) (hg:dJ W g cur 31) (hcm:cap<=maxLen) (hsz:cur.size=cap * 2) (ht:cur.toList.take (n * 2)=flat EJ l) (hx:dJ W b (jY c).toArray 31) (hne:b≠g) (hk:k<n) (hroom:n+1<=cap) (hl:n<=900) :
  Calls L 145 #[J (O ⟨g,0,K⟩) n cap,V X k,J (O ⟨b,0,K⟩) 1 1] W (Cb B l k c (J (O ⟨g,0,K⟩) n cap) W):=by
 obtain⟨R1,R2,r1,r2,ow⟩:=uN (E:=EJ) (l:=l) (k:=k) (cap:=cap) (cur:=cur) (cs:=(jY c).toArray) (c:=c) Ba (by omega) (by omega) hsz (by rw [<- hn]; exact ht) g b hne;have hov:=fun lb cb=>UM W g b ((k+1) * 2) 1 lb cb cur (jY c).toArray hx hg hne (by omega);have s0:=iE (E:=EJ) Ba g k n cap (by omega) (by omega);have s1:=kP (E:=EJ) Ba ⟨g,0,K⟩ (n+1) n cap (by omega);have s2:=iE (E:=EJ) Ba g (k+1) (n+1) cap (by omega) (by omega);have s3:=iE (E:=EJ) Ba g k (n+1) cap (by omega) (by omega);have q1:=r1 W.drew 3 (n+1-(k+1)) (cap-(k+1)) (n+1-k) (cap-k) hg (by omega);have q2:=r2 (W.drew.setRow g R1) 3 (n+1-k) (cap-k) (dJ.set (show dJ W.drew g cur 31 from hg) R1) (dJ.other (show dJ W.drew b _ 31 from hx) hne R1) rfl (by omega);have Q:=D (show Cb B l k c (J (O ⟨g,0,K⟩) n cap) W (aB (J (O ⟨g,0,K⟩) (n+1) cap)) ((W.drew.setRow g R1).setRow g R2) from ⟨_,rfl,by rw [hn]; exact ow _ B hBg hcm (dJ.set (dJ.set (show dJ W.drew g cur 31 from hg) R1) R2),below_setRow (below_setRow (ak B W).drew hBg _) hBg _,fun j hj hne=>(setRow_other _ g j _ (fun e=>hne (by rw [e]; rfl))).trans (setRow_other _ g j _ (fun e=>hne (by rw [e]; rfl)))⟩);clear r1 r2 ow hg ht hx hsz hBg hcm;change ∀ w,(U 24 (J (O ⟨g,0,K⟩) n cap) (O (V X k)) K K).run L w=.ok (J (O ⟨g,k * 2,K⟩) (n-k) (cap-k)) w at s0;change ∀ w,(U 24 (J (O ⟨g,0,K⟩) n cap) K (O (V X ((n:Int)+1))) K).run L w=.ok (J (O ⟨g,0,K⟩) (n+1) cap) w at s1;change ∀ w,(U 24 (J (O ⟨g,0,K⟩) (n+1) cap) (O (V X ((k:Int)+1))) K K).run L w=.ok (J (O ⟨g,(k+1) * 2,K⟩) (n+1-(k+1)) (cap-(k+1))) w at s2;change ∀ w,(U 24 (J (O ⟨g,0,K⟩) (n+1) cap) (O (V X k)) K K).run L w=.ok (J (O ⟨g,k * 2,K⟩) (n+1-k) (cap-k)) w at s3;have e1:((k:Int) == (n:Int))=aj:=by rw [beq_eq_false_iff_ne]; omega
 have e2:decide ((cap:Int)<(n:Int)+1)=aj:=by simp; omega
 change (aA #[24,24] 3 #[J (O ⟨g,(k+1) * 2,K⟩) (n+1-(k+1)) (cap-(k+1)),J (O ⟨g,k * 2,K⟩) (n+1-k) (cap-k)]).run L W.drew=.ok (V X ((l.length-k:Nat):Int)) (W.drew.setRow g R1) at q1;change (aA #[24,24] 3 #[J (O ⟨g,k * 2,K⟩) (n+1-k) (cap-k),J (O ⟨b,0,K⟩) 1 1]).run L (W.drew.setRow g R1)=.ok (V X 1) ((W.drew.setRow g R1).setRow g R2) at q2;clear hn;go_enter aF,aD;go_wp2_with (first | (simp only [hov]) | fail);clear hov s0 s1 s2 s3;have hw1:IntKind.i64.wrap ((k:Int)+1)=(k:Int)+1:=by rw [aI]; omega
 have hb1:(0:Int)<=(k:Int)+1:=by omega
 have hb0:(k:Int)+1<=(n:Int)+1:=by omega
 have htn:((k:Int)+1).toNat=k+1:=by omega
 have hb2:¬ (cap=k+1):=by omega
 have hb3:(k:Int)<=(n:Int)+1:=by omega
 have hb4:¬ (cap=k):=by omega
 have h81:n+1-(k+1)=n-k:=by omega
 rw [h81] at q1;clear h81
 go_region_law (refine jr rfl (.tmp 73) (.tmp 76) 24 rfl (v:=J (O ⟨g,(k+1) * 2,K⟩) (n-k) (cap-(k+1))) (xv:=J (O ⟨g,k * 2,K⟩) (n+1-k) (cap-k)) (by simp [Act.eval,Act.put]) (by simp [Act.eval,Act.put]) q1 ?_)
 all_goals simp only [Exit.then]
 all_goals apply_assumption
 clear q1 hw1 hb1 hb0 htn hb2 hb3 hb4;have s3:=iE (E:=EJ) Ba g k (n+1) cap (by omega) (by omega);change ∀ w,(U 24 (J (O ⟨g,0,K⟩) (n+1) cap) (O (V X k)) K K).run L w=.ok (J (O ⟨g,k * 2,K⟩) (n+1-k) (cap-k)) w at s3;go_wp2_with (first | (at_builtin; refine wpList_copy_run rfl _ _ 24 rfl rfl rfl q2 ?_) | fail);go_ret;exact Q.out
theorem Hy (B g n cap:Nat) (cur:Array Value) (l:List fD) (k:Nat) (c:fD) (b:Nat) (W:World) (hn:n=l.length) (hg:dJ W g cur 31) (hcm:cap<=maxLen) (hnc:n<=cap) (ht:cur.toList.take (n * 2)=flat EJ l) (hx:dJ W b (jY c).toArray 31) (hk:k<n) (hroom:cap<n+1) (hl:n<=900) (hB:B<=W.heap.size) :
  Calls L 145 #[J (O ⟨g,0,K⟩) n cap,V X k,J (O ⟨b,0,K⟩) 1 1] W (Cb B l k c (J (O ⟨g,0,K⟩) n cap) W):=by
 have hgw:=hg.lt;have hbw:=hx.lt;obtain⟨G,R1,R2,R3,hG1,hG2,r1,r2,r3,ow⟩:=wY (E:=EJ) (l:=l) (k:=k) (cap:=cap) (cur:=cur) (cs:=(jY c).toArray) (c:=c) Ba 3 Tryz.underlying3 (by omega) (by omega) (by omega) (by omega) (by rw [<- hn]; exact ht) W g b hg hbw;unfold maxLen at hcm hG2;have s0:=iE (E:=EJ) Ba g k n cap (by omega) (by omega);have s1:=kP (E:=EJ) Ba ⟨g,0,K⟩ k n cap (by omega);have s2:=iE (E:=EJ) Ba W.heap.size k (n+1) G (by omega) (by omega);have s3:=iE (E:=EJ) Ba W.heap.size (k+1) (n+1) G (by omega) (by omega);have a1:=r1 24;have n1:=dO W.drew R1 31;have bl:W.drew.heap.size=W.heap.size:=rfl;rw [bl] at n1;have g1:dJ (W.drew.alloc (ah R1 31)) g cur 31:=dJ.more (show dJ W.drew g cur 31 from hg) _;have x1:dJ (W.drew.alloc (ah R1 31)) b (jY c).toArray 31:=dJ.more (show dJ W.drew b _ 31 from hx) _;have q2:=r2 (W.drew.alloc (ah R1 31)) 3 (n+1-k) (G-k) n1 x1 rfl (by omega);have q3:=r3 ((W.drew.alloc (ah R1 31)).setRow W.heap.size R2).drew 3 (n+1-(k+1)) (G-(k+1)) (n-k) (cap-k) (dJ.set n1 R2) (dJ.other g1 (by omega) R2) (by omega);have Q:=D (show Cb B l k c (J (O ⟨g,0,K⟩) n cap) W (aB (J (O ⟨W.heap.size,0,K⟩) (n+1) G)) (((W.drew.alloc (ah R1 31)).setRow W.heap.size R2).drew.setRow W.heap.size R3) from ⟨_,rfl,by rw [hn]; exact ow _ B hB (dJ.set (dJ.set n1 R2) R3),below_setRow (below_setRow ((ak B W).drew.alloc hB _) hB _).drew hB _,fun j hj _=>(setRow_other _ W.heap.size j _ (by omega)).trans ((setRow_other _ W.heap.size j _ (by omega)).trans (Array.getElem?_push_lt hj |>.trans (Array.getElem?_eq_getElem hj).symm))⟩);have l1:l.length+1=n+1:=by rw [hn]
 rw [l1,<- hn] at a1;clear r1 r2 r3 ow hg ht hx g1 x1 n1 bl l1;change ∀ w,(U 24 (J (O ⟨g,0,K⟩) n cap) (O (V X k)) K K).run L w=.ok (J (O ⟨g,k * 2,K⟩) (n-k) (cap-k)) w at s0;change ∀ w,(U 24 (J (O ⟨g,0,K⟩) n cap) K (O (V X k)) K).run L w=.ok (J (O ⟨g,0,K⟩) k cap) w at s1;change ∀ w,(U 24 (J (O ⟨W.heap.size,0,K⟩) (n+1) G) (O (V X k)) K K).run L w=.ok (J (O ⟨W.heap.size,k * 2,K⟩) (n+1-k) (G-k)) w at s2;change ∀ w,(U 24 (J (O ⟨W.heap.size,0,K⟩) (n+1) G) (O (V X ((k:Int)+1))) K K).run L w=.ok (J (O ⟨W.heap.size,(k+1) * 2,K⟩) (n+1-(k+1)) (G-(k+1))) w at s3;change (aM #[24,3] 24 #[J (O ⟨g,0,K⟩) k cap,V X ((n:Int)+1-k)]).run L W=.ok (J (O ⟨W.heap.size,0,K⟩) (n+1) G) (W.drew.alloc (ah R1 31)) at a1;change (aA #[24,24] 3 #[J (O ⟨W.heap.size,k * 2,K⟩) (n+1-k) (G-k),J (O ⟨b,0,K⟩) 1 1]).run L (W.drew.alloc (ah R1 31))=.ok (V X 1) ((W.drew.alloc (ah R1 31)).setRow W.heap.size R2) at q2;change (aA #[24,24] 3 #[J (O ⟨W.heap.size,(k+1) * 2,K⟩) (n+1-(k+1)) (G-(k+1)),J (O ⟨g,k * 2,K⟩) (n-k) (cap-k)]).run L ((W.drew.alloc (ah R1 31)).setRow W.heap.size R2).drew=.ok (V X ((l.length-k:Nat):Int)) (((W.drew.alloc (ah R1 31)).setRow W.heap.size R2).drew.setRow W.heap.size R3) at q3;have e1:((k:Int) == (n:Int))=aj:=by rw [beq_eq_false_iff_ne]; omega
 have e2:decide ((cap:Int)<(n:Int)+1)=aP:=by simp; omega
 have hGn:n+1<=G:=by omega
 clear hn;generalize W.heap.size=N at *;generalize W.drew.alloc (ah R1 31)=W1 at *;generalize W1.setRow N R2=W2 at *;go_enter aF,aD;go_wp2_with (first | (at_builtin; refine jy rfl _ _ 24 3 rfl rfl rfl a1 ?_) | (at_builtin; refine wpList_copy_run rfl _ _ 24 rfl rfl rfl q2 ?_) | fail);clear a1 q2 s0 s1 s2 s3;have hw1:IntKind.i64.wrap ((k:Int)+1)=(k:Int)+1:=by rw [aI]; omega
 have hb1:(0:Int)<=(k:Int)+1:=by omega
 have hb0:(k:Int)+1<=(n:Int)+1:=by omega
 have htn:((k:Int)+1).toNat=k+1:=by omega
 have hb2:¬ (G=k+1):=by omega
 have hb3:(k:Int)<=(n:Int):=by omega
 have hb4:¬ (cap=k):=by omega
 have h81:n+1-(k+1)=n-k:=by omega
 rw [h81] at q3;clear h81
 go_region_law (refine jr rfl (.tmp 50) (.tmp 53) 24 rfl (v:=J (O ⟨N,(k+1) * 2,K⟩) (n-k) (G-(k+1))) (xv:=J (O ⟨g,k * 2,K⟩) (n-k) (cap-k)) (by simp [Act.eval,Act.put]) (by simp [Act.eval,Act.put]) q3 ?_)
 all_goals simp only [Exit.then]
 all_goals apply_assumption
 go_wp2;go_ret;exact Q.out
theorem JA (B:Nat) (v:Value) (l:List fD) (k:Nat) (c:fD) (b:Nat) (W:World) (ho:sD W B v l) (hx:dJ W b (jY c).toArray 31) (hne:v.ownBlock≠O b) (hk:k<=l.length) (hl:l.length<=900) (hB:B<=W.heap.size) :
  Calls L 145 #[v,V X k,J (O ⟨b,0,K⟩) 1 1] W (Cb B l k c v W):=by
 rcases aC k l.length with h|h
 ·rcases gX ho with⟨_,h2⟩|⟨g,cap,cur,rfl,h1,h2,h3,h4,h5,h6⟩
  ·rw [h2] at h; simp at h
  ·rcases aC cap (l.length+1) with h7|h7
   ·exact Hy B g _ cap cur l k c b W rfl h2 h4 h3 h6 hx h h7 hl hB
   ·exact DX B g _ cap cur l k c b W rfl h1 h2 h4 h5 h6 hx (fun e=>hne (by simp [Value.ownBlock,e])) h h7 hl
 ·obtain rfl:k=l.length:=by omega
  exact Jz B v l c b W ho hx hl hB
end Av
namespace Av
open Go.RowKit Rw Bk Go.Maps Go.ChangeMaps
end Av
namespace Bk
open Go.RowKit Go.Sort Rw YtmklifheakemeaaGreat.Nm Pr
theorem nG {α β:Type} {R:α->β->Prop}:∀ {l m} (_:eY R l m) (k:Nat) (a:α),l[k]?=O a->∃ b,m[k]?=O b/\R a b
 | _,_,.nil,k,b,h=>by simp at h
 | _,_,.cons x t,0,b,h=>by
  simp at h;subst h;exact⟨_,rfl,x⟩
 | _,_,.cons x t,k+1,b,h=>by
  obtain⟨a,h1,h2⟩:=nG t k b (by simpa using h);exact⟨a,by simpa using h1,h2⟩
theorem JC (nU bv:Value) (l m:List iH) (la lb:List En) (w:World) (ha:lS w nU l) (hb:lS w bv m) (ua:eY (jD w) l la) (ub:eY (jD w) m lb) (sa:∀ (k:Nat) (e:En),la[k]?=O e->e.p.length<=1000000) (sb:∀ (k:Nat) (e:En),lb[k]?=O e->e.p.length<=1000000) (hl:l.length<=1000000) :
  Calls L 51 #[nU,bv] w fun e w'=>e=aB (aR (gU Jo la lb))/\Below w.heap.size w w':=by
 have UA:=D ua;have UB:=D ub;have SHA:=D sa;have SHB:=D sb;clear ua ub sa sb;have HA:=D ha;have HB:=D hb;obtain⟨ao,ac,rfl⟩:=ha.len;obtain⟨bo,bc,rfl⟩:=hb.len;clear ha hb;by_cases hlen:l.length=m.length
 ·have HL:=D hlen;rw [<- hlen] at HB ⊢;obtain⟨n,hn⟩:∃ n,n=l.length:=⟨_,rfl⟩;simp only [<- hn] at HA HB ⊢;have HN:=D hn.symm;rw [<- hn] at hl;clear hlen hn;go_enter aQ,aO;go_wp2
  go_loopw [13] (fun i wr=>∃ k:Nat,k<=n/\i=V X k/\Below w.heap.size w wr/\∀ (j:Nat) (x y:En),j<k->la[j]?=O x->lb[j]?=O y->Jo x y=aP) (fun i _=>n-(intOf i).toNat)
  case atStart=>exact⟨0,aL _,rfl,ak _ _,fun j x y h=>by omega⟩
  case round =>
   obtain⟨k,hk,rfl,hbe,hall⟩:=hrel;have BE:=D hbe;have AL:=D hall;clear hbe hall;by_cases hlt:k<n
   ·obtain⟨x,hx⟩:∃ x,l[k]?=O x:=⟨_,Z (by rw [HN.out]; exact hlt)⟩;obtain⟨y,hy⟩:∃ y,m[k]?=O y:=⟨_,Z (by rw [<- HL.out,HN.out]; exact hlt)⟩;obtain⟨p,ix,px⟩:=LK HA.out rfl HN.out hx;obtain⟨q,iy,py⟩:=LK HB.out rfl (HL.out.symm.trans HN.out) hy;obtain⟨sx,hsx,ix_⟩:=nG UA.out k x hx;obtain⟨sy,hsy,iy_⟩:=nG UB.out k y hy;obtain⟨x1,x2,x3,x4,⟨xo,xn,xc⟩,x6,x7⟩:=x;obtain⟨y1,y2,y3,y4,⟨yo,yn,yc⟩,y6,y7⟩:=y;obtain⟨ta,tb,tp,tf,tu⟩:=sx;obtain⟨va,vb,vp,vf,vu⟩:=sy;obtain⟨rfl,rfl,rfl,rfl,rx⟩:=ix_;obtain⟨rfl,rfl,rfl,rfl,ry⟩:=iy_;have p0:=cell_regrown (px _ BE.out).1;have p1:=cell_regrown (px _ BE.out).2.1;have p2:=cell_regrown (px _ BE.out).2.2.1;have p3:=cell_regrown (px _ BE.out).2.2.2.1;have p4:=cell_regrown (px _ BE.out).2.2.2.2.1;have p5:=cell_regrown (px _ BE.out).2.2.2.2.2.1;have p6:=cell_regrown (px _ BE.out).2.2.2.2.2.2;have q0:=cell_regrown (py _ BE.out).1;have q1:=cell_regrown (py _ BE.out).2.1;have q2:=cell_regrown (py _ BE.out).2.2.1;have q3:=cell_regrown (py _ BE.out).2.2.2.1;have q4:=cell_regrown (py _ BE.out).2.2.2.2.1;have q5:=cell_regrown (py _ BE.out).2.2.2.2.2.1;have q6:=cell_regrown (py _ BE.out).2.2.2.2.2.2;have CS:=D (fun d os=>Calls.regrown_of (d:=d) (os:=os) (uP (J xo xn xc) (J yo yn yc) tp vp _ ((rx.on BE.out).on (below_regrown wr d os)) ((ry.on BE.out).on (below_regrown wr d os)) (SHA.out _ _ hsx) (SHB.out _ _ hsy)));have R0:=show Jo ⟨(x1,x2),(x3,x4),tp,x6,x7⟩ ⟨(y1,y2),(y3,y4),vp,y6,y7⟩=(Aq (x1,x2) (y1,y2) && (Aq (x3,x4) (y3,y4) && (x6 == y6 && (x7 == y7 && jE tp vp)))) from rfl;obtain⟨r1,e1⟩:∃ r,Aq (x1,x2) (y1,y2)=r:=⟨_,rfl⟩;obtain⟨r2,e2⟩:∃ r,Aq (x3,x4) (y3,y4)=r:=⟨_,rfl⟩;obtain⟨r3,e3⟩:∃ r,(x6 == y6)=r:=⟨_,rfl⟩;obtain⟨r5,e5⟩:∃ r,jE tp vp=r:=⟨_,rfl⟩;have h1:=Ho x1 x2 y1 y2 (!r1) (by rw [<- e1]; rfl);have h2:=Ho x3 x4 y3 y4 (!r2) (by rw [<- e2]; rfl);have h3:(x6 != y6)=!r3:=by rw [<- e3]; rfl
    rw [e5] at CS;rw [e1,e2,e3,e5] at R0;have HX:=D hsx;have HY:=D hsy;have Ae:=D R0;clear px py hx hy hsx hsy rx ry R0 e1 e2 e3 e5;cases r1
    ·have HR:=D (Ae.out.trans (show _=aj by simp));have R:=D (show gU Jo la lb=aj from jc la lb k _ _ HX.out HY.out HR.out);go_wp2;refine wp_region_quiet_below (by kernel_rfl) (by kernel_rfl) ?_
     repeat (go_big_quiet_step (first | (with_reducible exact CS.out _ _)))
     refine wpQuiet_nil ?_;intro _ hw';obtain⟨⟨dq,osq⟩,hw''⟩:=hw';subst hw'';go_wp2;go_ret;exact⟨lg R.out.symm,BE.out.trans ((below_regrown wr dq osq).mono BE.out.size)⟩
    ·cases r2
     ·have HR:=D (Ae.out.trans (show _=aj by simp));have R:=D (show gU Jo la lb=aj from jc la lb k _ _ HX.out HY.out HR.out);go_wp2;refine wp_region_quiet_below (by kernel_rfl) (by kernel_rfl) ?_
      repeat (go_big_quiet_step (first | (with_reducible exact CS.out _ _)))
      refine wpQuiet_nil ?_;intro _ hw';obtain⟨⟨dq,osq⟩,hw''⟩:=hw';subst hw'';go_wp2;go_ret;exact⟨lg R.out.symm,BE.out.trans ((below_regrown wr dq osq).mono BE.out.size)⟩
     ·cases r3
      ·have HR:=D (Ae.out.trans (show _=aj by simp));have R:=D (show gU Jo la lb=aj from jc la lb k _ _ HX.out HY.out HR.out);go_wp2;refine wp_region_quiet_below (by kernel_rfl) (by kernel_rfl) ?_
       repeat (go_big_quiet_step (first | (with_reducible exact CS.out _ _)))
       refine wpQuiet_nil ?_;intro _ hw';obtain⟨⟨dq,osq⟩,hw''⟩:=hw';subst hw'';go_wp2;go_ret;exact⟨lg R.out.symm,BE.out.trans ((below_regrown wr dq osq).mono BE.out.size)⟩
      ·cases x7 <;> cases y7
       ·cases r5
        ·have HR:=D (Ae.out.trans (show _=aj by simp));have R:=D (show gU Jo la lb=aj from jc la lb k _ _ HX.out HY.out HR.out);go_wp2;refine wp_region_quiet_below (by kernel_rfl) (by kernel_rfl) ?_
         repeat (go_big_quiet_step (first | (with_reducible exact CS.out _ _)))
         refine wpQuiet_nil ?_;intro _ hw';obtain⟨⟨dq,osq⟩,hw''⟩:=hw';subst hw'';go_wp2;go_ret;exact⟨lg R.out.symm,BE.out.trans ((below_regrown wr dq osq).mono BE.out.size)⟩
        ·have HR:=D (Ae.out.trans (show _=aP by simp));go_wp2;refine wp_region_quiet_below (by kernel_rfl) (by kernel_rfl) ?_
         repeat (go_big_quiet_step (first | (with_reducible exact CS.out _ _)))
         refine wpQuiet_nil ?_;intro _ hw';obtain⟨⟨dq,osq⟩,hw''⟩:=hw';subst hw'';clear ix iy p0 q0 p1 q1 p2 q2 p3 q3 p4 q4 p5 q5 p6 q6 h1 h2 h3;go_wp2
         go_roundw
         case rel=>exact⟨k+1,by omega,by go_num,BE.out.trans ((below_regrown wr dq osq).mono BE.out.size),fun j x' y' hj h1 h2=>by
          rcases aC j k with h3|h3
          ·exact AL.out j x' y' h3 h1 h2
          ·obtain rfl:j=k:=by omega
           have e1:=HX.out;have e2:=HY.out;rw [h1] at e1;rw [h2] at e2;rw [au e1,au e2];exact HR.out⟩
         case measure=>simp [intOf]; omega
       ·have HR:=D (Ae.out.trans (show _=aj by simp));have R:=D (show gU Jo la lb=aj from jc la lb k _ _ HX.out HY.out HR.out);go_wp2;refine wp_region_quiet_below (by kernel_rfl) (by kernel_rfl) ?_
        repeat (go_big_quiet_step (first | (with_reducible exact CS.out _ _)))
        refine wpQuiet_nil ?_;intro _ hw';obtain⟨⟨dq,osq⟩,hw''⟩:=hw';subst hw'';go_wp2;go_ret;exact⟨lg R.out.symm,BE.out.trans ((below_regrown wr dq osq).mono BE.out.size)⟩
       ·have HR:=D (Ae.out.trans (show _=aj by simp));have R:=D (show gU Jo la lb=aj from jc la lb k _ _ HX.out HY.out HR.out);go_wp2;refine wp_region_quiet_below (by kernel_rfl) (by kernel_rfl) ?_
        repeat (go_big_quiet_step (first | (with_reducible exact CS.out _ _)))
        refine wpQuiet_nil ?_;intro _ hw';obtain⟨⟨dq,osq⟩,hw''⟩:=hw';subst hw'';go_wp2;go_ret;exact⟨lg R.out.symm,BE.out.trans ((below_regrown wr dq osq).mono BE.out.size)⟩
       ·cases r5
        ·have HR:=D (Ae.out.trans (show _=aj by simp));have R:=D (show gU Jo la lb=aj from jc la lb k _ _ HX.out HY.out HR.out);go_wp2;refine wp_region_quiet_below (by kernel_rfl) (by kernel_rfl) ?_
         repeat (go_big_quiet_step (first | (with_reducible exact CS.out _ _)))
         refine wpQuiet_nil ?_;intro _ hw';obtain⟨⟨dq,osq⟩,hw''⟩:=hw';subst hw'';go_wp2;go_ret;exact⟨lg R.out.symm,BE.out.trans ((below_regrown wr dq osq).mono BE.out.size)⟩
        ·have HR:=D (Ae.out.trans (show _=aP by simp));go_wp2;refine wp_region_quiet_below (by kernel_rfl) (by kernel_rfl) ?_
         repeat (go_big_quiet_step (first | (with_reducible exact CS.out _ _)))
         refine wpQuiet_nil ?_;intro _ hw';obtain⟨⟨dq,osq⟩,hw''⟩:=hw';subst hw'';clear ix iy p0 q0 p1 q1 p2 q2 p3 q3 p4 q4 p5 q5 p6 q6 h1 h2 h3;go_wp2
         go_roundw
         case rel=>exact⟨k+1,by omega,by go_num,BE.out.trans ((below_regrown wr dq osq).mono BE.out.size),fun j x' y' hj h1 h2=>by
          rcases aC j k with h3|h3
          ·exact AL.out j x' y' h3 h1 h2
          ·obtain rfl:j=k:=by omega
           have e1:=HX.out;have e2:=HY.out;rw [h1] at e1;rw [h2] at e2;rw [au e1,au e2];exact HR.out⟩
         case measure=>simp [intOf]; omega
   ·obtain rfl:k=n:=by omega
    have R:=D (show gU Jo la lb=aP from qW la lb (by rw [<- UA.out.len,<- UB.out.len]; exact HL.out) (fun j a b h1 h2=>AL.out j a b (by have:=(List.getElem?_eq_some_iff.1 h1).1; have:=HN.out; have:=UA.out.len; omega) h1 h2));go_wp2;go_ret;exact⟨lg R.out.symm,BE.out⟩
 ·have R:=D (show gU Jo la lb=aj by
   cases h:gU Jo la lb
   ·rfl
   ·have h2:=yL _ _ h;exact absurd (by rw [UA.out.len,UB.out.len]; exact h2) hlen)
  have hne:(((l.length:Nat):Int) != ((m.length:Nat):Int))=aP:=by simp; omega
  have hne2:(((l.length:Nat):Int) == ((m.length:Nat):Int))=aj:=by simp; omega
  clear hlen;go_enter aQ,aO;go_wp2;go_ret;exact⟨lg R.out.symm,ak _ _⟩
end Bk
namespace Rl
open Go.RowKit Pu Rw Pr Va
def yS (x y:Cn):Bool:=decide (y.1=x.1) && eZ y.2 x.2
theorem UN {α:Type} (f:α->Bool) (l:List α) (k:Nat) (y:α) (h:l[k]?=O y):(l.take (k+1)).any f=((l.take k).any f || f y):=by
 rw [aG,h,List.any_append];simp
theorem JD {α:Type} (f:α->Bool) (l:List α) (k:Nat) (y:α) (h:l[k]?=O y):(l.take (k+1)).all f=((l.take k).all f && f y):=by
 rw [aG,h,List.all_append];simp
theorem OY {α:Type} (f:α->Bool) (l:List α) (k:Nat) (y:α) (h:l[k]?=O y) (hf:f y=aj):l.all f=aj:=by
 rw [List.all_eq_false];exact⟨y,List.mem_of_getElem? h,by simp [hf]⟩
theorem str_eq (a b:ByteArray) (h:a=b):(a.toList == b.toList)=aP:=by simp [h]
theorem afZ (a b:ByteArray) (h:¬ a=b):(a.toList == b.toList)=aj:=by
 rw [beq_eq_false_iff_ne];intro e;rw [aN,aN] at e;exact h (qR e)
theorem JE (nU bv:Value) (a b:List Cn) (w:World) (ha:fK w nU (a.map r5)) (hb:fK w bv (b.map r5)) (hl:a.length<=100) (hm:b.length<=100) :
  Calls L 153 #[nU,bv] w fun e w'=>e=aB (aR (qd a b))/\Below w.heap.size w w':=by
 have HA:=D ha;have HB:=D hb;have CO:=D (show qd a b=a.all fun x=>b.any (yS x) from rfl);obtain⟨ao,ac,rfl⟩:=ha.len;obtain⟨bo,bc,rfl⟩:=hb.len;clear ha hb;rw [ay] at HA HB ⊢;rw [ay];generalize qd a b=r at *;generalize hn:a.length=n at *;generalize hm':b.length=m at *;have HN:=D hn;have HM:=D hm';clear hn hm';go_enter Tryz.func153,Tryz.ntmps153;go_wp2
 go_loopw [12] (fun i wr=>∃ k:Nat,k<=n/\i=V X k/\Below w.heap.size w wr/\(a.take k).all (fun x=>b.any (yS x))=aP) (fun i _=>n-(intOf i).toNat)
 case atStart=>exact⟨0,aL _,rfl,ak _ _,rfl⟩
 case round =>
  obtain⟨k,hk,rfl,hbe,hall⟩:=hrel;have BE:=D hbe;have AL:=D hall;clear hbe hall;by_cases hlt:k<n
  ·obtain⟨x,hx⟩:∃ x,a[k]?=O x:=⟨_,Z (by rw [HN.out]; exact hlt)⟩;obtain⟨p,ix,px⟩:=Tm HA.out rfl (by rw [ay]; exact HN.out) (show (a.map r5)[k]?=O (r5 x) by rw [aH,hx]; rfl);have p0:=(px _ BE.out).1;have p1:=(px _ BE.out).2.1;have p2:=(px _ BE.out).2.2.1;have p3:=(px _ BE.out).2.2.2.1;have p4:=(px _ BE.out).2.2.2.2;have HX:=D hx;have B1:=D (BE.out.alloc BE.out.size (ah #[Y (r5 x).1,V X (r5 x).2.1,V X (r5 x).2.2.1,V X (r5 x).2.2.2.1,Y (r5 x).2.2.2.2] 70));have Z1:=D (show wr.heap.size<(wr.alloc (ah #[Y (r5 x).1,V X (r5 x).2.1,V X (r5 x).2.2.1,V X (r5 x).2.2.2.1,Y (r5 x).2.2.2.2] 70)).heap.size by simp);have e0:(wr.alloc (ah #[Y (r5 x).1,V X (r5 x).2.1,V X (r5 x).2.2.1,V X (r5 x).2.2.2.1,Y (r5 x).2.2.2.2] 70)).cell? ⟨wr.heap.size,0,K⟩=O (Y (r5 x).1):=by simp [go_sem]
   have e1:(wr.alloc (ah #[Y (r5 x).1,V X (r5 x).2.1,V X (r5 x).2.2.1,V X (r5 x).2.2.2.1,Y (r5 x).2.2.2.2] 70)).cell? ⟨wr.heap.size,1,K⟩=O (V X (r5 x).2.1):=by simp [go_sem]
   have e2:(wr.alloc (ah #[Y (r5 x).1,V X (r5 x).2.1,V X (r5 x).2.2.1,V X (r5 x).2.2.2.1,Y (r5 x).2.2.2.2] 70)).cell? ⟨wr.heap.size,2,K⟩=O (V X (r5 x).2.2.1):=by simp [go_sem]
   have e3:(wr.alloc (ah #[Y (r5 x).1,V X (r5 x).2.1,V X (r5 x).2.2.1,V X (r5 x).2.2.2.1,Y (r5 x).2.2.2.2] 70)).cell? ⟨wr.heap.size,3,K⟩=O (V X (r5 x).2.2.2.1):=by simp [go_sem]
   have e4:(wr.alloc (ah #[Y (r5 x).1,V X (r5 x).2.1,V X (r5 x).2.2.1,V X (r5 x).2.2.2.1,Y (r5 x).2.2.2.2] 70)).cell? ⟨wr.heap.size,4,K⟩=O (Y (r5 x).2.2.2.2):=by simp [go_sem]
   clear px hx;go_wp2;generalize wr.alloc (ah #[Y (r5 x).1,V X (r5 x).2.1,V X (r5 x).2.2.1,V X (r5 x).2.2.2.1,Y (r5 x).2.2.2.2] 70)=W1 at *;generalize wr.heap.size=bx at *;have E0:=D e0;have E1:=D e1;have E2:=D e2;have E3:=D e3;have E4:=D e4;clear e0 e1 e2 e3 e4 ix p0 p1 p2 p3 p4
   go_loopw [7,18] (fun v i wi=>∃ j:Nat,j<=m/\i=V X j/\v=aR ((b.take j).any (yS x))/\Below W1.heap.size W1 wi) (fun _ i _=>m-(intOf i).toNat)
   case atStart=>exact⟨0,aL _,rfl,rfl,ak _ _⟩
   case round =>
    obtain⟨j,hj,rfl,rfl,hbi⟩:=hrel;have BI:=D hbi;have TK:=D (B1.out.trans (hbi.mono B1.out.size));clear hbi;by_cases hjt:j<m
    ·obtain⟨y,hy⟩:∃ y,b[j]?=O y:=⟨_,Z (by rw [HM.out]; exact hjt)⟩;obtain⟨q,iy,py⟩:=Tm HB.out rfl (by rw [ay]; exact HM.out) (show (b.map r5)[j]?=O (r5 y) by rw [aH,hy]; rfl);have q0:=(py _ TK.out).1;have q1:=(py _ TK.out).2.1;have q2:=(py _ TK.out).2.2.1;have q3:=(py _ TK.out).2.2.2.1;have q4:=(py _ TK.out).2.2.2.2;have MO:=D (UN (yS x) b j y hy);have BI2:=D (BI.out.alloc BI.out.size (ah #[Y (r5 y).1,V X (r5 y).2.1,V X (r5 y).2.2.1,V X (r5 y).2.2.2.1,Y (r5 y).2.2.2.2] 70));have f0:=(BI2.out.cell (p:=⟨bx,0,K⟩) Z1.out).trans E0.out;have f1:=(BI2.out.cell (p:=⟨bx,1,K⟩) Z1.out).trans E1.out;have f2:=(BI2.out.cell (p:=⟨bx,2,K⟩) Z1.out).trans E2.out;have f3:=(BI2.out.cell (p:=⟨bx,3,K⟩) Z1.out).trans E3.out;have f4:=(BI2.out.cell (p:=⟨bx,4,K⟩) Z1.out).trans E4.out;clear py hy;cases hv:(b.take j).any (yS x)
     ·rw [hv] at MO;clear hv;by_cases hne:y.1=x.1
      ·have g0:=str_eq (r5 y).1 (r5 x).1 hne;have CV:=D (show yS x y=eZ y.2 x.2 by simp [yS,hne]);go_wp2_with fail;refine (Jy y x _).mono ?_;rintro e w2 ⟨rfl,hc⟩;have BC:=D (BI2.out.trans (hc.mono BI2.out.size));clear hc;go_wp2
       go_roundw
       case rel=>exact⟨j+1,by omega,by go_num,by rw [MO.out,CV.out]; rfl,BC.out⟩
       case measure=>simp [intOf]; omega
      ·have g0:=afZ (r5 y).1 (r5 x).1 hne;have CV:=D (show yS x y=aj by simp [yS,hne]);go_wp2
       go_roundw
       case rel=>exact⟨j+1,by omega,by go_num,by rw [MO.out,CV.out]; rfl,BI2.out⟩
       case measure=>simp [intOf]; omega
     ·rw [hv] at MO;clear hv;go_wp2
      go_roundw
      case rel=>exact⟨j+1,by omega,by go_num,by rw [MO.out]; rfl,BI2.out⟩
      case measure=>simp [intOf]; omega
    ·obtain rfl:j=m:=by omega
     have TA:=D (show (b.take j).any (yS x)=b.any (yS x) by rw [<- HM.out,aJ]);have AM:=D (JD (fun x=>b.any (yS x)) a k x HX.out);rw [TA.out];cases hv:b.any (yS x)
     ·have R:=D (show r=aj from CO.out.trans (OY _ a k x HX.out hv));clear hv;go_wp2;go_ret;exact⟨eu R.out.symm,TK.out⟩
     ·have HV:=D hv;clear hv;go_wp2
      go_roundw
      case rel=>exact⟨k+1,by omega,by go_num,TK.out,by rw [AM.out,AL.out,HV.out]; rfl⟩
      case measure=>simp [intOf]; omega
  ·obtain rfl:k=n:=by omega
   have R:=D (show r=aP by rw [CO.out,<- AL.out,<- HN.out,aJ]);go_wp2;go_ret;exact⟨eu R.out.symm,BE.out⟩
end Rl
end Go.Proofs.YtmklifheakemeaaGreat
