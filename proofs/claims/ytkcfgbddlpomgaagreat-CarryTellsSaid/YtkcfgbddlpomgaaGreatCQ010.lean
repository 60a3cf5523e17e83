/-
  Attributes of packag. Conditions as told.
-/
import Derived.Test.YtkcfgbddlpomgaaGreatCQ004
import Derived.Test.YtkcfgbddlpomgaaGreatCQ007
set_option maxRecDepth 100000
set_option maxHeartbeats 64000000
open _root_.Go renaming World->X,Value->ah,maxLen->aD,Calls->aF
open Go.Builtin renaming copy_->Y,append_->aB
open Go.Instr renaming sliceAt->O
open Go.IntKind renaming i64->V,wrap_i64->aA
open Go.Obj renaming cells->Z
open Go.Proofs.Tryz renaming prog->J,ntmps101->ak,func101->au,underlying3->ay
open Go.Value renaming slice->D,int->U,string->aj,bool->aC
open _root_.Option renaming none->K,some->L
namespace Go.Proofs.YtkcfgbddlpomgaaGreat
namespace At
open Go.RowKit Va
abbrev A4:=ByteArray×Bool×Int×ByteArray
abbrev av (x:A4):ah:=.agg #[aj x.1,aC x.2.1,U V x.2.2.1,aj x.2.2.2]
def vW (x:A4):List ah:=[aj x.1,aC x.2.1,U V x.2.2.1,aj x.2.2.2]
def kX:List A4->List ah
 | []=>[]
 | x::r=>.string x.1::aC x.2.1::U V x.2.2.1::aj x.2.2.2::kX r
theorem uK:∀ a b,kX (a++b)=kX a++kX b
 | [],b=>rfl
 | x::r,b=>by simp [kX,uK r b]
theorem Bu:∀ l,∀ u∈kX l,u.oneCell'=true
 | [],u,h=>by cases h
 | x::r,u,h=>by
  simp only [kX,List.mem_cons] at h;rcases h with rfl|rfl|rfl|rfl|h
  ·rfl
  ·rfl
  ·rfl
  ·rfl
  ·exact Bu r u h
theorem FP:∀ (l:List A4) (m:Nat) (x:A4),l[m]?=L x->(kX l)[m * 4]?=L (aj x.1)/\(kX l)[m * 4+1]?=L (aC x.2.1)/\(kX l)[m * 4+2]?=L (U V x.2.2.1)/\(kX l)[m * 4+3]?=L (aj x.2.2.2)
 | [],m,x,h=>by simp at h
 | y::r,0,x,h=>by
  simp at h;subst h;exact⟨rfl,rfl,rfl,rfl⟩
 | y::r,m+1,x,h=>by
  have h2:=FP r m x (by simpa using h);rw [show (m+1) * 4=m * 4+1+1+1+1 by omega,show m * 4+1+1+1+1+2=m * 4+2+1+1+1+1 by omega,show m * 4+1+1+1+1+3=m * 4+3+1+1+1+1 by omega];exact h2
theorem add_add (a:Addr) (i j:Nat):(a.add i).add j=a.add (i+j):=by
 unfold Addr.add;by_cases hi:i=0 <;> by_cases hj:j=0 <;> simp [hi,hj,Nat.add_assoc]
def uL (W:X) (lv:ah) (l:List A4):Prop :=
 (l=[]/\lv=D K 0 0)\/∃ (a:Addr) (cap:Nat),lv=D (L a) l.length cap/\l.length<=cap/\cap<=aD/\∀ j u,(kX l)[j]?=L u->W.cell? (a.add j)=L u
theorem uL.on {W W':X} {lv:ah} {l:List A4} (h:uL W lv l) (hb:Below W.heap.size W W'):uL W' lv l:=by
 rcases h with h|⟨a,cap,h1,h2,h3,h5⟩
 ·exact Or.inl h
 ·exact Or.inr ⟨a,cap,h1,h2,h3,fun j u hj=>by
   have hc:=h5 j u hj;rw [hb.cell (World.block_lt_of_cell? W _ hc)]; exact hc⟩
theorem uL.len {W:X} {lv:ah} {l:List A4} (h:uL W lv l):∃ ao cap,lv=D ao l.length cap:=by
 rcases h with⟨rfl,rfl⟩|⟨a,cap,rfl,_⟩
 ·exact⟨K,0,rfl⟩
 ·exact⟨_,cap,rfl⟩
theorem lt_of_heap {w:X} {b:Nat} {o:Obj} (h:w.heap[b]?=L o):b<w.heap.size:=by
 rcases Nat.lt_or_ge b w.heap.size with h0|h0
 ·exact h0
 ·simp [Array.getElem?_eq_none h0] at h
theorem uL.Vq {W:X} {B:Nat} {lv:ah} {l:List A4} (h:W.ownsRow B 97 4 lv l.length (kX l)):uL W lv l:=by
 rcases h.2 with⟨h1,h2⟩|⟨g,cap,cur,h1,h2,h3,h4,h5,h6,h7⟩
 ·exact Or.inl ⟨List.eq_nil_of_length_eq_zero h2,h1⟩
 ·exact Or.inr ⟨⟨g,0,K⟩,cap,h1,h4,h5,fun j u hj=>h.cells (g:=g) (by rw [h1]; rfl) j u hj⟩
theorem Jc (a:Addr) (m len cap:Nat) (h:m<len) (w:X):(Instr.indexAt 39 (D (L a) len cap) (U V m)).run J w=.ok (.pointer (L (a.add (m * 4)))) w:=by
 have h1:(m:Int)<len:=by omega
 simp [go_sem,Tryz.underlying39,h1]
theorem Zw:Tryz.prog.stoodInHeld 97=false:=by kernel_rfl
def DJ (x y:A4):Bool:=x.1.toList == y.1.toList && (x.2.1 == y.2.1 && x.2.2.1 == y.2.2.1 && x.2.2.2.toList == y.2.2.2.toList)
theorem aef (x y:A4) (r:Bool) (hr:DJ x y=r) (w:X):(binOp .neq 97 (av x) (av y)).run J w=.ok (aC (!r)) w:=by
 have st:=Zw;subst hr;obtain⟨a,b,c,d⟩:=x;obtain⟨a',b',c',d'⟩:=y;unfold DJ;by_cases h1:a.toList=a'.toList <;> by_cases h2:b=b' <;> by_cases h3:c=c' <;> by_cases h4:d.toList=d'.toList <;> simp [go_sem,Tryz.underlying97,Tryz.underlying93,Tryz.underlying4,ay,Tryz.underlying9,st,h1,h2,h3,h4]
end At
namespace Av
open Go.RowKit Rw YtkcfgbddlpomgaaGreat.Nm Pr Bk
theorem Qh {W:X} {b:Nat} {c:eF} (h:dG W b (ji c).toArray 38):vR W (D (L ⟨b,0,K⟩) 1 1) [c] :=
 Or.inr ⟨⟨b,0,K⟩,1,rfl,by simp,by decide,uE h (by simp [EJ])⟩
def yN (B:Nat) (l:List eF) (k:Nat) (c:eF) (vv:ah) (W:X) (e:Ending) (w':X):Prop:=∃ v',e=.returned v'/\qY w' B v' (l.take k++c::l.drop k)/\Below B W w'/\(∀ j,j<W.heap.size->L j≠vv.ownBlock->w'.heap[j]?=W.heap[j]?)
theorem FR (B:Nat) (v:ah) (l:List eF) (c:eF) (b:Nat) (W:X) (ho:qY W B v l) (hx:dG W b (ji c).toArray 38) (hl:l.length<=900) (hB:B<=W.heap.size) :
  aF J 101 #[v,U V (l.length:Nat),D (L ⟨b,0,K⟩) 1 1] W (yN B l l.length c v W):=by
 obtain⟨v',w',hr,ho2,hg⟩:=fO Am B ho (Qh hx) (by omega) (by simp) hB 29;have hr:(aB #[29,29] 29 #[v,D (L ⟨b,0,K⟩) 1 1]).run J W=.ok v' w':=hr;have Q:=Lib.hid (show yN B l l.length c v W (.returned v') w' from ⟨v',rfl,by rw [List.take_of_length_le (Nat.le_refl _),List.drop_of_length_le (Nat.le_refl _)]; exact ho2,(Below.refl B W).grown hg hB (fun j hj=>(ho.lt j hj).1),fun j hj hne=>hg.block j hj hne⟩);obtain⟨sx,hs,_⟩:=oN Am (Row.dn ho) l.length (Nat.le_refl _);have hs:∀ w,(O 29 v (L (U V l.length)) K K).run J w=.ok sx w:=hs;obtain⟨ao,ac,rfl⟩:=(Row.dn ho).len;clear ho ho2 hg;generalize hn:l.length=n at *;clear hn;go_enter au,ak;go_wp2_with (first | (at_builtin; refine wpList_append_run rfl _ _ 29 rfl rfl rfl hr ?_) | fail);go_ret;exact Q.out
theorem Qi (w:X) (g b k la lb cb:Nat) (cur cs:Array ah) (hb:dG w b cs 38) (hg:dG w g cur 38) (hne:b≠g) (h0:0<cur.size):(callFunc 114 #[D (L ⟨b,0,K⟩) la 1,D (L ⟨g,k,K⟩) lb cb]).run J w=.ok (.value (aC false)) w:=by
 rw [run_callFunc_extern Tryz.func114 (by kernel_rfl) (by kernel_rfl) (by kernel_rfl) (e:=Extern.SlicesOverlaps.overlaps #[29,29] #[4]) (by kernel_rfl),
  Lib.run_overlaps_apart w 29 4 38 Tryz.underlying29 2 Tryz.sizeOf38 ⟨b,0,K⟩ ⟨g,k,K⟩ la 1 lb cb hne 38 38 cs.size cur.size hb.shape hg.shape (by omega) (hb.fr 0) (hb.fr _)]
 rfl
theorem AQ (B g n cap:Nat) (cur:Array ah) (l:List eF) (k:Nat) (c:eF) (b:Nat) (W:X) (hn:n=l.length) (hBg:B<=g) (hg:dG W g cur 38) (hcm:cap<=aD) (hsz:cur.size=cap * 2) (ht:cur.toList.take (n * 2)=flat EJ l) (hx:dG W b (ji c).toArray 38) (hne:b≠g) (hk:k<n) (hroom:n+1<=cap) (hl:n<=900) :
  aF J 101 #[D (L ⟨g,0,K⟩) n cap,U V k,D (L ⟨b,0,K⟩) 1 1] W (yN B l k c (D (L ⟨g,0,K⟩) n cap) W):=by
 obtain⟨R1,R2,r1,r2,ow⟩:=vQ (E:=EJ) (l:=l) (k:=k) (cap:=cap) (cur:=cur) (cs:=(ji c).toArray) (c:=c) Am (by omega) (by omega) hsz (by rw [<- hn]; exact ht) g b hne;have hov:=fun lb cb=>Qi W g b ((k+1) * 2) 1 lb cb cur (ji c).toArray hx hg hne (by omega);have s0:=jc (E:=EJ) Am g k n cap (by omega) (by omega);have s1:=nN (E:=EJ) Am ⟨g,0,K⟩ (n+1) n cap (by omega);have s2:=jc (E:=EJ) Am g (k+1) (n+1) cap (by omega) (by omega);have s3:=jc (E:=EJ) Am g k (n+1) cap (by omega) (by omega);have q1:=r1 W.drew 3 (n+1-(k+1)) (cap-(k+1)) (n+1-k) (cap-k) hg (by omega);have q2:=r2 (W.drew.setRow g R1) 3 (n+1-k) (cap-k) (dG.set (show dG W.drew g cur 38 from hg) R1) (dG.other (show dG W.drew b _ 38 from hx) hne R1) rfl (by omega);have Q:=Lib.hid (show yN B l k c (D (L ⟨g,0,K⟩) n cap) W (.returned (D (L ⟨g,0,K⟩) (n+1) cap)) ((W.drew.setRow g R1).setRow g R2) from ⟨_,rfl,by rw [hn]; exact ow _ B hBg hcm (dG.set (dG.set (show dG W.drew g cur 38 from hg) R1) R2),below_setRow (below_setRow (Below.refl B W).drew hBg _) hBg _,fun j hj hne=>(setRow_other _ g j _ (fun e=>hne (by rw [e]; rfl))).trans (setRow_other _ g j _ (fun e=>hne (by rw [e]; rfl)))⟩);clear r1 r2 ow hg ht hx hsz hBg hcm;change ∀ w,(O 29 (D (L ⟨g,0,K⟩) n cap) (L (U V k)) K K).run J w=.ok (D (L ⟨g,k * 2,K⟩) (n-k) (cap-k)) w at s0;change ∀ w,(O 29 (D (L ⟨g,0,K⟩) n cap) K (L (U V ((n:Int)+1))) K).run J w=.ok (D (L ⟨g,0,K⟩) (n+1) cap) w at s1;change ∀ w,(O 29 (D (L ⟨g,0,K⟩) (n+1) cap) (L (U V ((k:Int)+1))) K K).run J w=.ok (D (L ⟨g,(k+1) * 2,K⟩) (n+1-(k+1)) (cap-(k+1))) w at s2;change ∀ w,(O 29 (D (L ⟨g,0,K⟩) (n+1) cap) (L (U V k)) K K).run J w=.ok (D (L ⟨g,k * 2,K⟩) (n+1-k) (cap-k)) w at s3;have e1:((k:Int) == (n:Int))=false:=by rw [beq_eq_false_iff_ne]; omega
 have e2:decide ((cap:Int)<(n:Int)+1)=false:=by simp; omega
 change (Y #[29,29] 3 #[D (L ⟨g,(k+1) * 2,K⟩) (n+1-(k+1)) (cap-(k+1)),D (L ⟨g,k * 2,K⟩) (n+1-k) (cap-k)]).run J W.drew=.ok (U V ((l.length-k:Nat):Int)) (W.drew.setRow g R1) at q1;change (Y #[29,29] 3 #[D (L ⟨g,k * 2,K⟩) (n+1-k) (cap-k),D (L ⟨b,0,K⟩) 1 1]).run J (W.drew.setRow g R1)=.ok (U V 1) ((W.drew.setRow g R1).setRow g R2) at q2;clear hn;go_enter au,ak;go_wp2_with (first | (simp only [hov]) | fail);clear hov s0 s1 s2 s3;have hw1:IntKind.i64.wrap ((k:Int)+1)=(k:Int)+1:=by rw [aA]; omega
 have hb1:(0:Int)<=(k:Int)+1:=by omega
 have hb0:(k:Int)+1<=(n:Int)+1:=by omega
 have htn:((k:Int)+1).toNat=k+1:=by omega
 have hb2:¬ (cap=k+1):=by omega
 have hb3:(k:Int)<=(n:Int)+1:=by omega
 have hb4:¬ (cap=k):=by omega
 have h81:n+1-(k+1)=n-k:=by omega
 rw [h81] at q1;clear h81
 go_region_law (refine jK rfl (.tmp 73) (.tmp 76) 29 rfl (v:=D (L ⟨g,(k+1) * 2,K⟩) (n-k) (cap-(k+1))) (xv:=D (L ⟨g,k * 2,K⟩) (n+1-k) (cap-k)) (by simp [Act.eval,Act.put]) (by simp [Act.eval,Act.put]) q1 ?_)
 all_goals simp only [Exit.then]
 all_goals apply_assumption
 clear q1 hw1 hb1 hb0 htn hb2 hb3 hb4;have s3:=jc (E:=EJ) Am g k (n+1) cap (by omega) (by omega);change ∀ w,(O 29 (D (L ⟨g,0,K⟩) (n+1) cap) (L (U V k)) K K).run J w=.ok (D (L ⟨g,k * 2,K⟩) (n+1-k) (cap-k)) w at s3;go_wp2_with (first | (at_builtin; refine wpList_copy_run rfl _ _ 29 rfl rfl rfl q2 ?_) | fail);go_ret;exact Q.out
theorem DK (B g n cap:Nat) (cur:Array ah) (l:List eF) (k:Nat) (c:eF) (b:Nat) (W:X) (hn:n=l.length) (hg:dG W g cur 38) (hcm:cap<=aD) (hnc:n<=cap) (ht:cur.toList.take (n * 2)=flat EJ l) (hx:dG W b (ji c).toArray 38) (hk:k<n) (hroom:cap<n+1) (hl:n<=900) (hB:B<=W.heap.size) :
  aF J 101 #[D (L ⟨g,0,K⟩) n cap,U V k,D (L ⟨b,0,K⟩) 1 1] W (yN B l k c (D (L ⟨g,0,K⟩) n cap) W):=by
 have hgw:=hg.lt;have hbw:=hx.lt;obtain⟨G,R1,R2,R3,hG1,hG2,r1,r2,r3,ow⟩:=yE (E:=EJ) (l:=l) (k:=k) (cap:=cap) (cur:=cur) (cs:=(ji c).toArray) (c:=c) Am 3 ay (by omega) (by omega) (by omega) (by omega) (by rw [<- hn]; exact ht) W g b hg hbw;unfold aD at hcm hG2;have s0:=jc (E:=EJ) Am g k n cap (by omega) (by omega);have s1:=nN (E:=EJ) Am ⟨g,0,K⟩ k n cap (by omega);have s2:=jc (E:=EJ) Am W.heap.size k (n+1) G (by omega) (by omega);have s3:=jc (E:=EJ) Am W.heap.size (k+1) (n+1) G (by omega) (by omega);have a1:=r1 29;have n1:=dI W.drew R1 38;have bl:W.drew.heap.size=W.heap.size:=rfl;rw [bl] at n1;have g1:dG (W.drew.alloc (Z R1 38)) g cur 38:=dG.more (show dG W.drew g cur 38 from hg) _;have x1:dG (W.drew.alloc (Z R1 38)) b (ji c).toArray 38:=dG.more (show dG W.drew b _ 38 from hx) _;have q2:=r2 (W.drew.alloc (Z R1 38)) 3 (n+1-k) (G-k) n1 x1 rfl (by omega);have q3:=r3 ((W.drew.alloc (Z R1 38)).setRow W.heap.size R2).drew 3 (n+1-(k+1)) (G-(k+1)) (n-k) (cap-k) (dG.set n1 R2) (dG.other g1 (by omega) R2) (by omega);have Q:=Lib.hid (show yN B l k c (D (L ⟨g,0,K⟩) n cap) W (.returned (D (L ⟨W.heap.size,0,K⟩) (n+1) G)) (((W.drew.alloc (Z R1 38)).setRow W.heap.size R2).drew.setRow W.heap.size R3) from ⟨_,rfl,by rw [hn]; exact ow _ B hB (dG.set (dG.set n1 R2) R3),below_setRow (below_setRow ((Below.refl B W).drew.alloc hB _) hB _).drew hB _,fun j hj _=>(setRow_other _ W.heap.size j _ (by omega)).trans ((setRow_other _ W.heap.size j _ (by omega)).trans (Array.getElem?_push_lt hj |>.trans (Array.getElem?_eq_getElem hj).symm))⟩);have l1:l.length+1=n+1:=by rw [hn]
 rw [l1,<- hn] at a1;clear r1 r2 r3 ow hg ht hx g1 x1 n1 bl l1;change ∀ w,(O 29 (D (L ⟨g,0,K⟩) n cap) (L (U V k)) K K).run J w=.ok (D (L ⟨g,k * 2,K⟩) (n-k) (cap-k)) w at s0;change ∀ w,(O 29 (D (L ⟨g,0,K⟩) n cap) K (L (U V k)) K).run J w=.ok (D (L ⟨g,0,K⟩) k cap) w at s1;change ∀ w,(O 29 (D (L ⟨W.heap.size,0,K⟩) (n+1) G) (L (U V k)) K K).run J w=.ok (D (L ⟨W.heap.size,k * 2,K⟩) (n+1-k) (G-k)) w at s2;change ∀ w,(O 29 (D (L ⟨W.heap.size,0,K⟩) (n+1) G) (L (U V ((k:Int)+1))) K K).run J w=.ok (D (L ⟨W.heap.size,(k+1) * 2,K⟩) (n+1-(k+1)) (G-(k+1))) w at s3;change (aB #[29,3] 29 #[D (L ⟨g,0,K⟩) k cap,U V ((n:Int)+1-k)]).run J W=.ok (D (L ⟨W.heap.size,0,K⟩) (n+1) G) (W.drew.alloc (Z R1 38)) at a1;change (Y #[29,29] 3 #[D (L ⟨W.heap.size,k * 2,K⟩) (n+1-k) (G-k),D (L ⟨b,0,K⟩) 1 1]).run J (W.drew.alloc (Z R1 38))=.ok (U V 1) ((W.drew.alloc (Z R1 38)).setRow W.heap.size R2) at q2;change (Y #[29,29] 3 #[D (L ⟨W.heap.size,(k+1) * 2,K⟩) (n+1-(k+1)) (G-(k+1)),D (L ⟨g,k * 2,K⟩) (n-k) (cap-k)]).run J ((W.drew.alloc (Z R1 38)).setRow W.heap.size R2).drew=.ok (U V ((l.length-k:Nat):Int)) (((W.drew.alloc (Z R1 38)).setRow W.heap.size R2).drew.setRow W.heap.size R3) at q3;have e1:((k:Int) == (n:Int))=false:=by rw [beq_eq_false_iff_ne]; omega
 have e2:decide ((cap:Int)<(n:Int)+1)=true:=by simp; omega
 have hGn:n+1<=G:=by omega
 clear hn;generalize W.heap.size=N at *;generalize W.drew.alloc (Z R1 38)=W1 at *;generalize W1.setRow N R2=W2 at *;go_enter au,ak;go_wp2_with (first | (at_builtin; refine kI rfl _ _ 29 3 rfl rfl rfl a1 ?_) | (at_builtin; refine wpList_copy_run rfl _ _ 29 rfl rfl rfl q2 ?_) | fail);clear a1 q2 s0 s1 s2 s3;have hw1:IntKind.i64.wrap ((k:Int)+1)=(k:Int)+1:=by rw [aA]; omega
 have hb1:(0:Int)<=(k:Int)+1:=by omega
 have hb0:(k:Int)+1<=(n:Int)+1:=by omega
 have htn:((k:Int)+1).toNat=k+1:=by omega
 have hb2:¬ (G=k+1):=by omega
 have hb3:(k:Int)<=(n:Int):=by omega
 have hb4:¬ (cap=k):=by omega
 have h81:n+1-(k+1)=n-k:=by omega
 rw [h81] at q3;clear h81
 go_region_law (refine jK rfl (.tmp 50) (.tmp 53) 29 rfl (v:=D (L ⟨N,(k+1) * 2,K⟩) (n-k) (G-(k+1))) (xv:=D (L ⟨g,k * 2,K⟩) (n-k) (cap-k)) (by simp [Act.eval,Act.put]) (by simp [Act.eval,Act.put]) q3 ?_)
 all_goals simp only [Exit.then]
 all_goals apply_assumption
 go_wp2;go_ret;exact Q.out
theorem FT (B:Nat) (v:ah) (l:List eF) (k:Nat) (c:eF) (b:Nat) (W:X) (ho:qY W B v l) (hx:dG W b (ji c).toArray 38) (hne:v.ownBlock≠L b) (hk:k<=l.length) (hl:l.length<=900) (hB:B<=W.heap.size) :
  aF J 101 #[v,U V k,D (L ⟨b,0,K⟩) 1 1] W (yN B l k c v W):=by
 rcases Nat.lt_or_ge k l.length with h|h
 ·rcases iP ho with⟨_,h2⟩|⟨g,cap,cur,rfl,h1,h2,h3,h4,h5,h6⟩
  ·rw [h2] at h; simp at h
  ·rcases Nat.lt_or_ge cap (l.length+1) with h7|h7
   ·exact DK B g _ cap cur l k c b W rfl h2 h4 h3 h6 hx h h7 hl hB
   ·exact AQ B g _ cap cur l k c b W rfl h1 h2 h4 h5 h6 hx (fun e=>hne (by simp [Value.ownBlock,e])) h h7 hl
 ·obtain rfl:k=l.length:=by omega
  exact FR B v l c b W ho hx hl hB
end Av
end Go.Proofs.YtkcfgbddlpomgaaGreat
