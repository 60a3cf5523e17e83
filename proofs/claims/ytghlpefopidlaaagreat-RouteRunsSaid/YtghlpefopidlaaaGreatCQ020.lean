/-
  slices.Insert of one. Conditions as told.
-/
import Derived.Test.YtghlpefopidlaaaGreatCQ009
set_option maxRecDepth 100000
set_option maxHeartbeats 64000000
open _root_.Go renaming World->ah,Value->aj,Calls->aB
open Go.Addr renaming add->X
open Go.Builtin renaming copy_->Y,append_->aA
open Go.Instr renaming sliceAt->O
open Go.IntKind renaming i64->V,wrap_i64->ay
open Go.Obj renaming cells->Z
open Go.Proofs.Tryz renaming prog->K,ntmps106->ak,func106->au
open Go.Value renaming slice->D,int->U
open _root_.Option renaming none->J,some->L
namespace Go.Proofs.YtghlpefopidlaaaGreat
namespace Av
open Go.RowKit Rw YtghlpefopidlaaaGreat.Nm Pr Bk
theorem Eh {W:ah} {b:Nat} {c:dQ} (h:cZ W b (jl c).toArray 23):uP W (D (L ⟨b,0,J⟩) 1 1) [c] :=
 Or.inr ⟨⟨b,0,J⟩,1,rfl,by simp,by decide,kH h (by simp [EJ])⟩
def qM (B:Nat) (l:List dQ) (k:Nat) (c:dQ) (vv:aj) (W:ah) (e:Ending) (w':ah):Prop:=∃ v',e=.returned v'/\wm w' B v' (l.take k++c::l.drop k)/\Below B W w'/\(∀ j,j<W.heap.size->L j≠vv.ownBlock->w'.heap[j]?=W.heap[j]?)
theorem wI (B:Nat) (v:aj) (l:List dQ) (c:dQ) (b:Nat) (W:ah) (ho:wm W B v l) (hx:cZ W b (jl c).toArray 23) (hl:l.length<=900) (hB:B<=W.heap.size) :
  aB K 106 #[v,U V (l.length:Nat),D (L ⟨b,0,J⟩) 1 1] W (qM B l l.length c v W):=by
 obtain⟨v',w',hr,ho2,hg⟩:=jq xX B ho (Eh hx) (by omega) (by simp) hB 26;have hr:(aA #[26,26] 26 #[v,D (L ⟨b,0,J⟩) 1 1]).run K W=.ok v' w':=hr;have Q:=Lib.hid (show qM B l l.length c v W (.returned v') w' from ⟨v',rfl,by rw [List.take_of_length_le (Nat.le_refl _),List.drop_of_length_le (Nat.le_refl _)]; exact ho2,(Below.refl B W).grown hg hB (fun j hj=>(ho.lt j hj).1),fun j hj hne=>hg.block j hj hne⟩);obtain⟨sx,hs,_⟩:=qw xX (Row.dx ho) l.length (Nat.le_refl _);have hs:∀ w,(O 26 v (L (U V l.length)) J J).run K w=.ok sx w:=hs;obtain⟨ao,ac,rfl⟩:=(Row.dx ho).len;clear ho ho2 hg;generalize hn:l.length=n at *;clear hn;go_enter au,ak;go_wp2_with (first | (at_builtin; refine wpList_append_run rfl _ _ 26 rfl rfl rfl hr ?_) | fail);go_ret;exact Q.out
theorem Ei (w:ah) (g b k la lb cb:Nat) (cur cs:Array aj) (hb:cZ w b cs 23) (hg:cZ w g cur 23) (hne:b≠g) (h0:0<cur.size):(callFunc 142 #[D (L ⟨b,0,J⟩) la 1,D (L ⟨g,k,J⟩) lb cb]).run K w=.ok (.value (.bool false)) w:=by
 rw [run_callFunc_extern Tryz.func142 (by kernel_rfl) (by kernel_rfl) (by kernel_rfl) (e:=Extern.SlicesOverlaps.overlaps #[26,26] #[4]) (by kernel_rfl),
  Lib.run_overlaps_apart w 26 4 23 Tryz.underlying26 2 Tryz.sizeOf23 ⟨b,0,J⟩ ⟨g,k,J⟩ la 1 lb cb hne 23 23 cs.size cur.size hb.shape hg.shape (by omega) (hb.fr 0) (hb.fr _)]
 rfl
theorem r9 (B g n cap:Nat) (cur:Array aj) (l:List dQ) (k:Nat) (c:dQ) (b:Nat) (W:ah) (hn:n=l.length) (hBg:B<=g) (hg:cZ W g cur 23) (hcm:cap<=maxLen) (hsz:cur.size=cap * 2) (ht:cur.toList.take (n * 2)=flat EJ l) (hx:cZ W b (jl c).toArray 23) (hne:b≠g) (hk:k<n) (hroom:n+1<=cap) (hl:n<=900) :
  aB K 106 #[D (L ⟨g,0,J⟩) n cap,U V k,D (L ⟨b,0,J⟩) 1 1] W (qM B l k c (D (L ⟨g,0,J⟩) n cap) W):=by
 obtain⟨R1,R2,r1,r2,ow⟩:=jZ (E:=EJ) (l:=l) (k:=k) (cap:=cap) (cur:=cur) (cs:=(jl c).toArray) (c:=c) xX (by omega) (by omega) hsz (by rw [<- hn]; exact ht) g b hne;have hov:=fun lb cb=>Ei W g b ((k+1) * 2) 1 lb cb cur (jl c).toArray hx hg hne (by omega);have s0:=eH (E:=EJ) xX g k n cap (by omega) (by omega);have s1:=fZ (E:=EJ) xX ⟨g,0,J⟩ (n+1) n cap (by omega);have s2:=eH (E:=EJ) xX g (k+1) (n+1) cap (by omega) (by omega);have s3:=eH (E:=EJ) xX g k (n+1) cap (by omega) (by omega);have q1:=r1 W.drew 3 (n+1-(k+1)) (cap-(k+1)) (n+1-k) (cap-k) hg (by omega);have q2:=r2 (W.drew.setRow g R1) 3 (n+1-k) (cap-k) (cZ.set (show cZ W.drew g cur 23 from hg) R1) (cZ.other (show cZ W.drew b _ 23 from hx) hne R1) rfl (by omega);have Q:=Lib.hid (show qM B l k c (D (L ⟨g,0,J⟩) n cap) W (.returned (D (L ⟨g,0,J⟩) (n+1) cap)) ((W.drew.setRow g R1).setRow g R2) from ⟨_,rfl,by rw [hn]; exact ow _ B hBg hcm (cZ.set (cZ.set (show cZ W.drew g cur 23 from hg) R1) R2),below_setRow (below_setRow (Below.refl B W).drew hBg _) hBg _,fun j hj hne=>(setRow_other _ g j _ (fun e=>hne (by rw [e]; rfl))).trans (setRow_other _ g j _ (fun e=>hne (by rw [e]; rfl)))⟩);clear r1 r2 ow hg ht hx hsz hBg hcm;change ∀ w,(O 26 (D (L ⟨g,0,J⟩) n cap) (L (U V k)) J J).run K w=.ok (D (L ⟨g,k * 2,J⟩) (n-k) (cap-k)) w at s0;change ∀ w,(O 26 (D (L ⟨g,0,J⟩) n cap) J (L (U V ((n:Int)+1))) J).run K w=.ok (D (L ⟨g,0,J⟩) (n+1) cap) w at s1;change ∀ w,(O 26 (D (L ⟨g,0,J⟩) (n+1) cap) (L (U V ((k:Int)+1))) J J).run K w=.ok (D (L ⟨g,(k+1) * 2,J⟩) (n+1-(k+1)) (cap-(k+1))) w at s2;change ∀ w,(O 26 (D (L ⟨g,0,J⟩) (n+1) cap) (L (U V k)) J J).run K w=.ok (D (L ⟨g,k * 2,J⟩) (n+1-k) (cap-k)) w at s3;have e1:((k:Int) == (n:Int))=false:=by rw [beq_eq_false_iff_ne]; omega
 have e2:decide ((cap:Int)<(n:Int)+1)=false:=by simp; omega
 change (Y #[26,26] 3 #[D (L ⟨g,(k+1) * 2,J⟩) (n+1-(k+1)) (cap-(k+1)),D (L ⟨g,k * 2,J⟩) (n+1-k) (cap-k)]).run K W.drew=.ok (U V ((l.length-k:Nat):Int)) (W.drew.setRow g R1) at q1;change (Y #[26,26] 3 #[D (L ⟨g,k * 2,J⟩) (n+1-k) (cap-k),D (L ⟨b,0,J⟩) 1 1]).run K (W.drew.setRow g R1)=.ok (U V 1) ((W.drew.setRow g R1).setRow g R2) at q2;clear hn;go_enter au,ak;go_wp2_with (first | (simp only [hov]) | fail);clear hov s0 s1 s2 s3;have hw1:IntKind.i64.wrap ((k:Int)+1)=(k:Int)+1:=by rw [ay]; omega
 have hb1:(0:Int)<=(k:Int)+1:=by omega
 have hb0:(k:Int)+1<=(n:Int)+1:=by omega
 have htn:((k:Int)+1).toNat=k+1:=by omega
 have hb2:¬ (cap=k+1):=by omega
 have hb3:(k:Int)<=(n:Int)+1:=by omega
 have hb4:¬ (cap=k):=by omega
 have h81:n+1-(k+1)=n-k:=by omega
 rw [h81] at q1;clear h81
 go_region_law (refine eZ rfl (.tmp 73) (.tmp 76) 26 rfl (v:=D (L ⟨g,(k+1) * 2,J⟩) (n-k) (cap-(k+1))) (xv:=D (L ⟨g,k * 2,J⟩) (n+1-k) (cap-k)) (by simp [Act.eval,Act.put]) (by simp [Act.eval,Act.put]) q1 ?_)
 all_goals simp only [Exit.then]
 all_goals apply_assumption
 clear q1 hw1 hb1 hb0 htn hb2 hb3 hb4;have s3:=eH (E:=EJ) xX g k (n+1) cap (by omega) (by omega);change ∀ w,(O 26 (D (L ⟨g,0,J⟩) (n+1) cap) (L (U V k)) J J).run K w=.ok (D (L ⟨g,k * 2,J⟩) (n+1-k) (cap-k)) w at s3;go_wp2_with (first | (at_builtin; refine wpList_copy_run rfl _ _ 26 rfl rfl rfl q2 ?_) | fail);go_ret;exact Q.out
theorem vg (B g n cap:Nat) (cur:Array aj) (l:List dQ) (k:Nat) (c:dQ) (b:Nat) (W:ah) (hn:n=l.length) (hg:cZ W g cur 23) (hcm:cap<=maxLen) (hnc:n<=cap) (ht:cur.toList.take (n * 2)=flat EJ l) (hx:cZ W b (jl c).toArray 23) (hk:k<n) (hroom:cap<n+1) (hl:n<=900) (hB:B<=W.heap.size) :
  aB K 106 #[D (L ⟨g,0,J⟩) n cap,U V k,D (L ⟨b,0,J⟩) 1 1] W (qM B l k c (D (L ⟨g,0,J⟩) n cap) W):=by
 have hgw:=hg.lt;have hbw:=hx.lt;obtain⟨G,R1,R2,R3,hG1,hG2,r1,r2,r3,ow⟩:=kZ (E:=EJ) (l:=l) (k:=k) (cap:=cap) (cur:=cur) (cs:=(jl c).toArray) (c:=c) xX 3 Tryz.underlying3 (by omega) (by omega) (by omega) (by omega) (by rw [<- hn]; exact ht) W g b hg hbw;unfold maxLen at hcm hG2;have s0:=eH (E:=EJ) xX g k n cap (by omega) (by omega);have s1:=fZ (E:=EJ) xX ⟨g,0,J⟩ k n cap (by omega);have s2:=eH (E:=EJ) xX W.heap.size k (n+1) G (by omega) (by omega);have s3:=eH (E:=EJ) xX W.heap.size (k+1) (n+1) G (by omega) (by omega);have a1:=r1 26;have n1:=dG W.drew R1 23;have bl:W.drew.heap.size=W.heap.size:=rfl;rw [bl] at n1;have g1:cZ (W.drew.alloc (Z R1 23)) g cur 23:=cZ.more (show cZ W.drew g cur 23 from hg) _;have x1:cZ (W.drew.alloc (Z R1 23)) b (jl c).toArray 23:=cZ.more (show cZ W.drew b _ 23 from hx) _;have q2:=r2 (W.drew.alloc (Z R1 23)) 3 (n+1-k) (G-k) n1 x1 rfl (by omega);have q3:=r3 ((W.drew.alloc (Z R1 23)).setRow W.heap.size R2).drew 3 (n+1-(k+1)) (G-(k+1)) (n-k) (cap-k) (cZ.set n1 R2) (cZ.other g1 (by omega) R2) (by omega);have Q:=Lib.hid (show qM B l k c (D (L ⟨g,0,J⟩) n cap) W (.returned (D (L ⟨W.heap.size,0,J⟩) (n+1) G)) (((W.drew.alloc (Z R1 23)).setRow W.heap.size R2).drew.setRow W.heap.size R3) from ⟨_,rfl,by rw [hn]; exact ow _ B hB (cZ.set (cZ.set n1 R2) R3),below_setRow (below_setRow ((Below.refl B W).drew.alloc hB _) hB _).drew hB _,fun j hj _=>(setRow_other _ W.heap.size j _ (by omega)).trans ((setRow_other _ W.heap.size j _ (by omega)).trans (Array.getElem?_push_lt hj |>.trans (Array.getElem?_eq_getElem hj).symm))⟩);have l1:l.length+1=n+1:=by rw [hn]
 rw [l1,<- hn] at a1;clear r1 r2 r3 ow hg ht hx g1 x1 n1 bl l1;change ∀ w,(O 26 (D (L ⟨g,0,J⟩) n cap) (L (U V k)) J J).run K w=.ok (D (L ⟨g,k * 2,J⟩) (n-k) (cap-k)) w at s0;change ∀ w,(O 26 (D (L ⟨g,0,J⟩) n cap) J (L (U V k)) J).run K w=.ok (D (L ⟨g,0,J⟩) k cap) w at s1;change ∀ w,(O 26 (D (L ⟨W.heap.size,0,J⟩) (n+1) G) (L (U V k)) J J).run K w=.ok (D (L ⟨W.heap.size,k * 2,J⟩) (n+1-k) (G-k)) w at s2;change ∀ w,(O 26 (D (L ⟨W.heap.size,0,J⟩) (n+1) G) (L (U V ((k:Int)+1))) J J).run K w=.ok (D (L ⟨W.heap.size,(k+1) * 2,J⟩) (n+1-(k+1)) (G-(k+1))) w at s3;change (aA #[26,3] 26 #[D (L ⟨g,0,J⟩) k cap,U V ((n:Int)+1-k)]).run K W=.ok (D (L ⟨W.heap.size,0,J⟩) (n+1) G) (W.drew.alloc (Z R1 23)) at a1;change (Y #[26,26] 3 #[D (L ⟨W.heap.size,k * 2,J⟩) (n+1-k) (G-k),D (L ⟨b,0,J⟩) 1 1]).run K (W.drew.alloc (Z R1 23))=.ok (U V 1) ((W.drew.alloc (Z R1 23)).setRow W.heap.size R2) at q2;change (Y #[26,26] 3 #[D (L ⟨W.heap.size,(k+1) * 2,J⟩) (n+1-(k+1)) (G-(k+1)),D (L ⟨g,k * 2,J⟩) (n-k) (cap-k)]).run K ((W.drew.alloc (Z R1 23)).setRow W.heap.size R2).drew=.ok (U V ((l.length-k:Nat):Int)) (((W.drew.alloc (Z R1 23)).setRow W.heap.size R2).drew.setRow W.heap.size R3) at q3;have e1:((k:Int) == (n:Int))=false:=by rw [beq_eq_false_iff_ne]; omega
 have e2:decide ((cap:Int)<(n:Int)+1)=true:=by simp; omega
 have hGn:n+1<=G:=by omega
 clear hn;generalize W.heap.size=N at *;generalize W.drew.alloc (Z R1 23)=W1 at *;generalize W1.setRow N R2=W2 at *;go_enter au,ak;go_wp2_with (first | (at_builtin; refine fD rfl _ _ 26 3 rfl rfl rfl a1 ?_) | (at_builtin; refine wpList_copy_run rfl _ _ 26 rfl rfl rfl q2 ?_) | fail);clear a1 q2 s0 s1 s2 s3;have hw1:IntKind.i64.wrap ((k:Int)+1)=(k:Int)+1:=by rw [ay]; omega
 have hb1:(0:Int)<=(k:Int)+1:=by omega
 have hb0:(k:Int)+1<=(n:Int)+1:=by omega
 have htn:((k:Int)+1).toNat=k+1:=by omega
 have hb2:¬ (G=k+1):=by omega
 have hb3:(k:Int)<=(n:Int):=by omega
 have hb4:¬ (cap=k):=by omega
 have h81:n+1-(k+1)=n-k:=by omega
 rw [h81] at q3;clear h81
 go_region_law (refine eZ rfl (.tmp 50) (.tmp 53) 26 rfl (v:=D (L ⟨N,(k+1) * 2,J⟩) (n-k) (G-(k+1))) (xv:=D (L ⟨g,k * 2,J⟩) (n-k) (cap-k)) (by simp [Act.eval,Act.put]) (by simp [Act.eval,Act.put]) q3 ?_)
 all_goals simp only [Exit.then]
 all_goals apply_assumption
 go_wp2;go_ret;exact Q.out
theorem wJ (B:Nat) (v:aj) (l:List dQ) (k:Nat) (c:dQ) (b:Nat) (W:ah) (ho:wm W B v l) (hx:cZ W b (jl c).toArray 23) (hne:v.ownBlock≠L b) (hk:k<=l.length) (hl:l.length<=900) (hB:B<=W.heap.size) :
  aB K 106 #[v,U V k,D (L ⟨b,0,J⟩) 1 1] W (qM B l k c v W):=by
 rcases Nat.lt_or_ge k l.length with h|h
 ·rcases dY ho with⟨_,h2⟩|⟨g,cap,cur,rfl,h1,h2,h3,h4,h5,h6⟩
  ·rw [h2] at h; simp at h
  ·rcases Nat.lt_or_ge cap (l.length+1) with h7|h7
   ·exact vg B g _ cap cur l k c b W rfl h2 h4 h3 h6 hx h h7 hl hB
   ·exact r9 B g _ cap cur l k c b W rfl h1 h2 h4 h5 h6 hx (fun e=>hne (by simp [Value.ownBlock,e])) h h7 hl
 ·obtain rfl:k=l.length:=by omega
  exact wI B v l c b W ho hx hl hB
end Av
namespace Bk
open Go.RowKit Rw YtghlpefopidlaaaGreat.Nm Pr
def gD {κ:Type} [DecidableEq κ]:List κ->κ->Int
 | [],_=>-1
 | a::l,x=>if a=x then 0 else if gD l x=-1 then -1 else gD l x+1
theorem qN {κ:Type} [DecidableEq κ] (l:List κ) (x:κ) (h:∀ (j:Nat) (y:κ),l[j]?=L y->y≠x):gD l x=-1:=by
 induction l with
 | nil=>rfl
 | cons a l ih=>rw [gD,if_neg (h 0 a rfl),ih fun j y hj=>h (j+1) y (by simpa using hj),if_pos rfl]
theorem wK {κ:Type} [DecidableEq κ] (l:List κ) (k:Nat) (x:κ) (h:l[k]?=L x) (hall:∀ (j:Nat) (z:κ),j<k->l[j]?=L z->z≠x):gD l x=k:=by
 induction l generalizing k with
 | nil=>simp at h
 | cons a l ih =>
  cases k with
  | zero =>
   obtain rfl:a=x:=by simpa using h
   rw [gD,if_pos rfl]
   rfl
  | succ k =>
   have h2:=ih k (by simpa using h) fun j z hj hz=>hall (j+1) z (by omega) (by simpa using hz);rw [gD,if_neg (hall 0 a (by omega) rfl),h2,if_neg (by omega)];omega
theorem nW {κ:Type} [DecidableEq κ] (l:List κ) (x:κ):gD l x=-1\/∃ k:Nat,gD l x=k/\l[k]?=L x:=by
 induction l with
 | nil=>exact Or.inl rfl
 | cons a l ih =>
  rw [gD];by_cases h:a=x
  ·rw [if_pos h];exact Or.inr ⟨0,rfl,by rw [h]; rfl⟩
  ·rw [if_neg h];rcases ih with h2|⟨k,h2,h3⟩
   ·rw [if_pos h2];exact Or.inl rfl
   ·rw [if_neg (by omega),h2];exact Or.inr ⟨k+1,by omega,by simpa using h3⟩
abbrev wL (e:iw):Id×Id:=((e.1,e.2.1),(e.2.2.1,e.2.2.2.1))
end Bk
namespace Bk
open Go.RowKit Go.Sort Rw YtghlpefopidlaaaGreat.Nm Pr
abbrev lV:=Int×Int×Int×Int×Int×Int×Sl×Sl
abbrev iX (x:lV):List aj:=[U V x.1,U V x.2.1,U V x.2.2.1,U V x.2.2.2.1,U V x.2.2.2.2.1,U V x.2.2.2.2.2.1,dH x.2.2.2.2.2.2.1,dH x.2.2.2.2.2.2.2]
abbrev wM (x:lV):aj:=.agg #[U V x.1,U V x.2.1,U V x.2.2.1,U V x.2.2.2.1,U V x.2.2.2.2.1,U V x.2.2.2.2.2.1,dH x.2.2.2.2.2.2.1,dH x.2.2.2.2.2.2.2]
def EU:Ek lV:=⟨46,37,8,96,.agg #[U V 0,U V 0,U V 0,U V 0,U V 0,U V 0,D J 0 0,D J 0 0],wM,iX⟩
theorem MV:(Tryz.prog.info? 46).map (fun i=>(i.zero,i.size,i.bytes))=L (L (.agg #[U V 0,U V 0,U V 0,U V 0,U V 0,U V 0,D J 0 0,D J 0 0]),8,96):=by kernel_rfl
theorem MW (w:ah) (p:Addr) (x:lV) (h:∀ j u,(iX x)[j]?=L u->w.cell? (p.add j)=L u):(Instr.loadAt 46 (.pointer (L p))).run K w=.ok (wM x) w:=by
 have h0:=h 0 _ rfl;have h1:=h 1 _ rfl;have h2:=h 2 _ rfl;have h3:=h 3 _ rfl;have h4:=h 4 _ rfl;have h5:=h 5 _ rfl;have h6:=h 6 _ rfl;have h7:=h 7 _ rfl;simp [X] at h0 h1 h2 h3 h4 h5 h6 h7;simp [go_sem,h0,h1,h2,h3,h4,h5,h6,h7]
theorem Jm:EU.Ok where
 hu:=Tryz.underlying37
 info:=by
  have h:=MV;cases hi:Tryz.prog.info? 46 with
  | none=>rw [hi] at h; cases h
  | some i =>
   rw [hi] at h;simp only [Option.map_some,Option.some.injEq,Prod.mk.injEq] at h;exact⟨i,hi,h.1,h.2.1,h.2.2⟩
 zs:=rfl
 len:=fun _=>rfl
 one:=fun x u hu=>by
  simp only [EU,iX,List.mem_cons,List.not_mem_nil,or_false] at hu;rcases hu with rfl|rfl|rfl|rfl|rfl|rfl|rfl|rfl <;> rfl
 pos:=by decide
 few:=by decide
 load:=fun w p x h=>MW w p x h
abbrev Qa (W:ah) (v:aj) (l:List lV):Prop:=Row EU W v l
abbrev yL (W:ah) (B:Nat) (v:aj) (l:List lV):Prop:=Own EU W B v l
theorem Qb {W:ah} {v:aj} {l:List lV} {ao:Option Addr} {n c k:Nat} {x:lV} (h:Qa W v l) (hv:v=D ao n c) (hn:l.length=n) (hk:l[k]?=L x) :
  ∃ p:Addr,(∀ w,(Instr.indexAt 37 (D ao n c) (U V k)).run K w=.ok (.pointer (L p)) w)/\∀ w,Below W.heap.size W w->w.cell? p=L (U V x.1)/\w.cell? ⟨p.block,p.off+1,J⟩=L (U V x.2.1)/\w.cell? ⟨p.block,p.off+2,J⟩=L (U V x.2.2.1)/\w.cell? ⟨p.block,p.off+3,J⟩=L (U V x.2.2.2.1)/\w.cell? ⟨p.block,p.off+4,J⟩=L (U V x.2.2.2.2.1)/\w.cell? ⟨p.block,p.off+5,J⟩=L (U V x.2.2.2.2.2.1)/\w.cell? ⟨p.block,p.off+6,J⟩=L (dH x.2.2.2.2.2.2.1)/\w.cell? ⟨p.block,p.off+7,J⟩=L (dH x.2.2.2.2.2.2.2):=by
 obtain⟨p,h1,_,h2⟩:=mR Jm h hv hn hk;exact⟨p,h1,fun w hw=>⟨by simpa [X] using h2 w hw 0 _ rfl,by simpa [X] using h2 w hw 1 _ rfl,by simpa [X] using h2 w hw 2 _ rfl,by simpa [X] using h2 w hw 3 _ rfl,by simpa [X] using h2 w hw 4 _ rfl,by simpa [X] using h2 w hw 5 _ rfl,by simpa [X] using h2 w hw 6 _ rfl,by simpa [X] using h2 w hw 7 _ rfl⟩⟩
end Bk
end Go.Proofs.YtghlpefopidlaaaGreat
