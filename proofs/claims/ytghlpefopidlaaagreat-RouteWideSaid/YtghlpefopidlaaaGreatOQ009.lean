/-
  Names, pick, Tuple o. Conditions as told.
-/
import Derived.Test.YtghlpefopidlaaaGreatOQ007
import Derived.Maps.AppendAt
import Derived.Lib.QuietBelow
import Derived.BigQuiet
set_option maxRecDepth 100000
set_option maxHeartbeats 64000000
open Go.Builtin renaming copy_->V
open Go.Instr renaming sliceAt->O
open Go.IntKind renaming i64->U,wrap_i64->ak
open Go.Obj renaming cells->X
open Go.Proofs.Tryz renaming prog->J,ntmps191->ah,func191->aj
open Go.Value renaming slice->D,int->Y,string->Z
open _root_.Option renaming none->K,some->L
namespace Go.Proofs.YtghlpefopidlaaaGreat
namespace At
open Go.RowKit Va In
def nm (i:Nat):ByteArray:=⟨#[UInt8.ofNat (97+i)]⟩
def qA:Array Value:=#[Z ⟨#[97]⟩,Z ⟨#[98]⟩,Z ⟨#[99]⟩,Z ⟨#[100]⟩,Z ⟨#[101]⟩,Z ⟨#[102]⟩,Z ⟨#[103]⟩]
def nZ (zs:List Int) (i:Nat):Int:=if zs=[] then 0 else zs.getD (i % zs.length) 0
def odd (z:Int):Bool:=bits BinOp.and U z 1 == 1
end At
namespace At
open Go.RowKit Go.Sort Va In
end At
namespace At
open Go.RowKit Go.Sort Va In
def tC (c:UInt8):Bool:=decide (97<=c.toNat) && decide (c.toNat<=122)
def ko (s:ByteArray):Bool:=s.data.toList.all tC && (decide (1<=s.size) && decide (s.size<=12))
end At
namespace Bk
open Go.RowKit Go.Sort Rw YtghlpefopidlaaaGreat.Nm Pr
theorem JK (l:List Id) (x:Id) (k:Nat) (hall:∀ (j:Nat) (y:Id),j<k->l[j]?=L y->dJ y x=true) (hend:k=l.length\/∃ y,l[k]?=L y/\dJ y x=false):gF l x=k:=by
 unfold gF
 induction l generalizing k with
 | nil =>
  rcases hend with h|⟨y,h,_⟩
  ·rw [h]; rfl
  ·simp at h
 | cons a l ih =>
  cases k with
  | zero =>
   rcases hend with h|⟨y,h,h2⟩
   ·simp at h
   ·obtain rfl:a=y:=by simpa using h
    rw [List.takeWhile_cons,h2]
    rfl
  | succ k =>
   have h0:=hall 0 a (by omega) rfl;rw [List.takeWhile_cons,h0];simp only [if_true,List.length_cons];rw [ih k (fun j y hj hy=>hall (j+1) y (by omega) (by simpa using hy)) (by
    rcases hend with h|⟨y,h,h2⟩
    ·exact Or.inl (by simpa using h)
    ·exact Or.inr ⟨y,by simpa using h,h2⟩)]
end Bk
namespace Pr
open Go.RowKit Go.Sort Pu Rw Va
end Pr
namespace Pr
open Go.RowKit Go.Sort Pu Rw
theorem Nq {W:World} {b:Nat} {c:C5} (h:dx W b (cells5 c).toArray 91):gq W (D (L ⟨b,0,K⟩) 1 1) [c] :=
 Or.inr ⟨⟨b,0,K⟩,1,rfl,by simp,by decide,mY h (by simp [EC])⟩
def Da (B:Nat) (l:List C5) (k:Nat) (c:C5) (W:World) (e:Ending) (w':World):Prop:=∃ v',e=.returned v'/\ig w' B v' (l.take k++c::l.drop k)/\Below B W w'
theorem Db (B:Nat) (v:Value) (l:List C5) (c:C5) (b:Nat) (W:World) (ho:ig W B v l) (hx:dx W b (cells5 c).toArray 91) (hl:l.length<=100) (hB:B<=W.heap.size) :
  Calls J 191 #[v,Y U (l.length:Nat),D (L ⟨b,0,K⟩) 1 1] W (Da B l l.length c W):=by
 obtain⟨v',w',hr,ho2,hg⟩:=Rh B ho (Nq hx) (by omega) (by simp) hB;have Q:=Lib.hid (show Da B l l.length c W (.returned v') w' from ⟨v',rfl,by rw [List.take_of_length_le (Nat.le_refl _),List.drop_of_length_le (Nat.le_refl _)]; exact ho2,(Below.refl B W).grown hg hB (fun j hj=>(ho.lt j hj).1)⟩);obtain⟨sx,hs,_⟩:=hiC (Row.dB ho) l.length (Nat.le_refl _);obtain⟨ao,ac,rfl⟩:=(Row.dB ho).len;clear ho ho2 hg;generalize hn:l.length=n at *;clear hn;go_enter aj,ah;go_wp2_with (first | (at_builtin; refine wpList_append_run rfl _ _ 34 rfl rfl rfl hr ?_) | fail);go_ret;exact Q.out
theorem Nr (w:World) (g b k la lb cb:Nat) (cur cs:Array Value) (hb:dx w b cs 91) (hg:dx w g cur 91) (hne:b≠g) (h0:0<cur.size):(callFunc 198 #[D (L ⟨b,0,K⟩) la 1,D (L ⟨g,k,K⟩) lb cb]).run J w=.ok (.value (.bool false)) w:=by
 rw [run_callFunc_extern Tryz.func198 (by kernel_rfl) (by kernel_rfl) (by kernel_rfl) (e:=Extern.SlicesOverlaps.overlaps #[34,34] #[4]) (by kernel_rfl),
  Lib.run_overlaps_apart w 34 4 91 Tryz.underlying34 5 Tryz.sizeOf91 ⟨b,0,K⟩ ⟨g,k,K⟩ la 1 lb cb hne 91 91 cs.size cur.size hb.shape hg.shape (by omega) (hb.fr 0) (hb.fr _)]
 rfl
theorem ze (B g n cap:Nat) (cur:Array Value) (l:List C5) (k:Nat) (c:C5) (b:Nat) (W:World) (hn:n=l.length) (hBg:B<=g) (hg:dx W g cur 91) (hcm:cap<=maxLen) (hsz:cur.size=cap * 5) (ht:cur.toList.take (n * 5)=flat EC l) (hx:dx W b (cells5 c).toArray 91) (hne:b≠g) (hk:k<n) (hroom:n+1<=cap) (hl:n<=100) :
  Calls J 191 #[D (L ⟨g,0,K⟩) n cap,Y U k,D (L ⟨b,0,K⟩) 1 1] W (Da B l k c W):=by
 obtain⟨R1,R2,r1,r2,ow⟩:=mh (E:=EC) (l:=l) (k:=k) (cap:=cap) (cur:=cur) (cs:=(cells5 c).toArray) (c:=c) sP (by omega) (by omega) hsz (by rw [<- hn]; exact ht) g b hne;have hov:=fun lb cb=>Nr W g b ((k+1) * 5) 1 lb cb cur (cells5 c).toArray hx hg hne (by omega);have s0:=fu (E:=EC) sP g k n cap (by omega) (by omega);have s1:=iB (E:=EC) sP ⟨g,0,K⟩ (n+1) n cap (by omega);have s2:=fu (E:=EC) sP g (k+1) (n+1) cap (by omega) (by omega);have s3:=fu (E:=EC) sP g k (n+1) cap (by omega) (by omega);have q1:=r1 W.drew 3 (n+1-(k+1)) (cap-(k+1)) (n+1-k) (cap-k) hg (by omega);have q2:=r2 (W.drew.setRow g R1) 3 (n+1-k) (cap-k) (dx.set (show dx W.drew g cur 91 from hg) R1) (dx.other (show dx W.drew b _ 91 from hx) hne R1) rfl (by omega);have Q:=Lib.hid (show Da B l k c W (.returned (D (L ⟨g,0,K⟩) (n+1) cap)) ((W.drew.setRow g R1).setRow g R2) from ⟨_,rfl,by rw [hn]; exact ow _ B hBg hcm (dx.set (dx.set (show dx W.drew g cur 91 from hg) R1) R2),below_setRow (below_setRow (Below.refl B W).drew hBg _) hBg _⟩);clear r1 r2 ow hg ht hx hsz hBg hcm;change ∀ w,(O 34 (D (L ⟨g,0,K⟩) n cap) (L (Y U k)) K K).run J w=.ok (D (L ⟨g,k * 5,K⟩) (n-k) (cap-k)) w at s0;change ∀ w,(O 34 (D (L ⟨g,0,K⟩) n cap) K (L (Y U ((n:Int)+1))) K).run J w=.ok (D (L ⟨g,0,K⟩) (n+1) cap) w at s1;change ∀ w,(O 34 (D (L ⟨g,0,K⟩) (n+1) cap) (L (Y U ((k:Int)+1))) K K).run J w=.ok (D (L ⟨g,(k+1) * 5,K⟩) (n+1-(k+1)) (cap-(k+1))) w at s2;change ∀ w,(O 34 (D (L ⟨g,0,K⟩) (n+1) cap) (L (Y U k)) K K).run J w=.ok (D (L ⟨g,k * 5,K⟩) (n+1-k) (cap-k)) w at s3;have e1:((k:Int) == (n:Int))=false:=by rw [beq_eq_false_iff_ne]; omega
 have e2:decide ((cap:Int)<(n:Int)+1)=false:=by simp; omega
 change (V #[34,34] 3 #[D (L ⟨g,(k+1) * 5,K⟩) (n+1-(k+1)) (cap-(k+1)),D (L ⟨g,k * 5,K⟩) (n+1-k) (cap-k)]).run J W.drew=.ok (Y U ((l.length-k:Nat):Int)) (W.drew.setRow g R1) at q1;change (V #[34,34] 3 #[D (L ⟨g,k * 5,K⟩) (n+1-k) (cap-k),D (L ⟨b,0,K⟩) 1 1]).run J (W.drew.setRow g R1)=.ok (Y U 1) ((W.drew.setRow g R1).setRow g R2) at q2;clear hn;go_enter aj,ah;go_wp2_with (first | (simp only [hov]) | fail);clear hov s0 s1 s2 s3;have hw1:IntKind.i64.wrap ((k:Int)+1)=(k:Int)+1:=by rw [ak]; omega
 have hb1:(0:Int)<=(k:Int)+1:=by omega
 have hb0:(k:Int)+1<=(n:Int)+1:=by omega
 have htn:((k:Int)+1).toNat=k+1:=by omega
 have hb2:¬ (cap=k+1):=by omega
 have hb3:(k:Int)<=(n:Int)+1:=by omega
 have hb4:¬ (cap=k):=by omega
 have h81:n+1-(k+1)=n-k:=by omega
 rw [h81] at q1;clear h81
 go_region_law (refine fO rfl (.tmp 73) (.tmp 76) 34 rfl (v:=D (L ⟨g,(k+1) * 5,K⟩) (n-k) (cap-(k+1))) (xv:=D (L ⟨g,k * 5,K⟩) (n+1-k) (cap-k)) (by simp [Act.eval,Act.put]) (by simp [Act.eval,Act.put]) q1 ?_)
 all_goals simp only [Exit.then]
 all_goals apply_assumption
 clear q1 hw1 hb1 hb0 htn hb2 hb3 hb4;have s3:=fu (E:=EC) sP g k (n+1) cap (by omega) (by omega);change ∀ w,(O 34 (D (L ⟨g,0,K⟩) (n+1) cap) (L (Y U k)) K K).run J w=.ok (D (L ⟨g,k * 5,K⟩) (n+1-k) (cap-k)) w at s3;go_wp2_with (first | (at_builtin; refine wpList_copy_run rfl _ _ 34 rfl rfl rfl q2 ?_) | fail);go_ret;exact Q.out
theorem Ah (B g n cap:Nat) (cur:Array Value) (l:List C5) (k:Nat) (c:C5) (b:Nat) (W:World) (hn:n=l.length) (hg:dx W g cur 91) (hcm:cap<=maxLen) (hnc:n<=cap) (ht:cur.toList.take (n * 5)=flat EC l) (hx:dx W b (cells5 c).toArray 91) (hk:k<n) (hroom:cap<n+1) (hl:n<=100) (hB:B<=W.heap.size) :
  Calls J 191 #[D (L ⟨g,0,K⟩) n cap,Y U k,D (L ⟨b,0,K⟩) 1 1] W (Da B l k c W):=by
 have hgw:=hg.lt;have hbw:=hx.lt;obtain⟨G,R1,R2,R3,hG1,hG2,r1,r2,r3,ow⟩:=nU (E:=EC) (l:=l) (k:=k) (cap:=cap) (cur:=cur) (cs:=(cells5 c).toArray) (c:=c) sP 3 Tryz.underlying3 (by omega) (by omega) (by omega) (by omega) (by rw [<- hn]; exact ht) W g b hg hbw;unfold maxLen at hcm hG2;have s0:=fu (E:=EC) sP g k n cap (by omega) (by omega);have s1:=iB (E:=EC) sP ⟨g,0,K⟩ k n cap (by omega);have s2:=fu (E:=EC) sP W.heap.size k (n+1) G (by omega) (by omega);have s3:=fu (E:=EC) sP W.heap.size (k+1) (n+1) G (by omega) (by omega);have a1:=r1 34;have n1:=dK W.drew R1 91;have bl:W.drew.heap.size=W.heap.size:=rfl;rw [bl] at n1;have g1:dx (W.drew.alloc (X R1 91)) g cur 91:=dx.more (show dx W.drew g cur 91 from hg) _;have x1:dx (W.drew.alloc (X R1 91)) b (cells5 c).toArray 91:=dx.more (show dx W.drew b _ 91 from hx) _;have q2:=r2 (W.drew.alloc (X R1 91)) 3 (n+1-k) (G-k) n1 x1 rfl (by omega);have q3:=r3 ((W.drew.alloc (X R1 91)).setRow W.heap.size R2).drew 3 (n+1-(k+1)) (G-(k+1)) (n-k) (cap-k) (dx.set n1 R2) (dx.other g1 (by omega) R2) (by omega);have Q:=Lib.hid (show Da B l k c W (.returned (D (L ⟨W.heap.size,0,K⟩) (n+1) G)) (((W.drew.alloc (X R1 91)).setRow W.heap.size R2).drew.setRow W.heap.size R3) from ⟨_,rfl,by rw [hn]; exact ow _ B hB (dx.set (dx.set n1 R2) R3),below_setRow (below_setRow ((Below.refl B W).drew.alloc hB _) hB _).drew hB _⟩);have l1:l.length+1=n+1:=by rw [hn]
 rw [l1,<- hn] at a1;clear r1 r2 r3 ow hg ht hx g1 x1 n1 bl l1;change ∀ w,(O 34 (D (L ⟨g,0,K⟩) n cap) (L (Y U k)) K K).run J w=.ok (D (L ⟨g,k * 5,K⟩) (n-k) (cap-k)) w at s0;change ∀ w,(O 34 (D (L ⟨g,0,K⟩) n cap) K (L (Y U k)) K).run J w=.ok (D (L ⟨g,0,K⟩) k cap) w at s1;change ∀ w,(O 34 (D (L ⟨W.heap.size,0,K⟩) (n+1) G) (L (Y U k)) K K).run J w=.ok (D (L ⟨W.heap.size,k * 5,K⟩) (n+1-k) (G-k)) w at s2;change ∀ w,(O 34 (D (L ⟨W.heap.size,0,K⟩) (n+1) G) (L (Y U ((k:Int)+1))) K K).run J w=.ok (D (L ⟨W.heap.size,(k+1) * 5,K⟩) (n+1-(k+1)) (G-(k+1))) w at s3;change (Builtin.append_ #[34,3] 34 #[D (L ⟨g,0,K⟩) k cap,Y U ((n:Int)+1-k)]).run J W=.ok (D (L ⟨W.heap.size,0,K⟩) (n+1) G) (W.drew.alloc (X R1 91)) at a1;change (V #[34,34] 3 #[D (L ⟨W.heap.size,k * 5,K⟩) (n+1-k) (G-k),D (L ⟨b,0,K⟩) 1 1]).run J (W.drew.alloc (X R1 91))=.ok (Y U 1) ((W.drew.alloc (X R1 91)).setRow W.heap.size R2) at q2;change (V #[34,34] 3 #[D (L ⟨W.heap.size,(k+1) * 5,K⟩) (n+1-(k+1)) (G-(k+1)),D (L ⟨g,k * 5,K⟩) (n-k) (cap-k)]).run J ((W.drew.alloc (X R1 91)).setRow W.heap.size R2).drew=.ok (Y U ((l.length-k:Nat):Int)) (((W.drew.alloc (X R1 91)).setRow W.heap.size R2).drew.setRow W.heap.size R3) at q3;have e1:((k:Int) == (n:Int))=false:=by rw [beq_eq_false_iff_ne]; omega
 have e2:decide ((cap:Int)<(n:Int)+1)=true:=by simp; omega
 have hGn:n+1<=G:=by omega
 clear hn;generalize W.heap.size=N at *;generalize W.drew.alloc (X R1 91)=W1 at *;generalize W1.setRow N R2=W2 at *;go_enter aj,ah;go_wp2_with (first | (at_builtin; refine fZ rfl _ _ 34 3 rfl rfl rfl a1 ?_) | (at_builtin; refine wpList_copy_run rfl _ _ 34 rfl rfl rfl q2 ?_) | fail);clear a1 q2 s0 s1 s2 s3;have hw1:IntKind.i64.wrap ((k:Int)+1)=(k:Int)+1:=by rw [ak]; omega
 have hb1:(0:Int)<=(k:Int)+1:=by omega
 have hb0:(k:Int)+1<=(n:Int)+1:=by omega
 have htn:((k:Int)+1).toNat=k+1:=by omega
 have hb2:¬ (G=k+1):=by omega
 have hb3:(k:Int)<=(n:Int):=by omega
 have hb4:¬ (cap=k):=by omega
 have h81:n+1-(k+1)=n-k:=by omega
 rw [h81] at q3;clear h81
 go_region_law (refine fO rfl (.tmp 50) (.tmp 53) 34 rfl (v:=D (L ⟨N,(k+1) * 5,K⟩) (n-k) (G-(k+1))) (xv:=D (L ⟨g,k * 5,K⟩) (n-k) (cap-k)) (by simp [Act.eval,Act.put]) (by simp [Act.eval,Act.put]) q3 ?_)
 all_goals simp only [Exit.then]
 all_goals apply_assumption
 go_wp2;go_ret;exact Q.out
theorem Dc (B:Nat) (v:Value) (l:List C5) (k:Nat) (c:C5) (b:Nat) (W:World) (ho:ig W B v l) (hx:dx W b (cells5 c).toArray 91) (hne:v.ownBlock≠L b) (hk:k<=l.length) (hl:l.length<=100) (hB:B<=W.heap.size) :
  Calls J 191 #[v,Y U k,D (L ⟨b,0,K⟩) 1 1] W (Da B l k c W):=by
 rcases Nat.lt_or_ge k l.length with h|h
 ·rcases eT ho with⟨_,h2⟩|⟨g,cap,cur,rfl,h1,h2,h3,h4,h5,h6⟩
  ·rw [h2] at h; simp at h
  ·rcases Nat.lt_or_ge cap (l.length+1) with h7|h7
   ·exact Ah B g _ cap cur l k c b W rfl h2 h4 h3 h6 hx h h7 hl hB
   ·exact ze B g _ cap cur l k c b W rfl h1 h2 h4 h5 h6 hx (fun e=>hne (by simp [Value.ownBlock,e])) h h7 hl
 ·obtain rfl:k=l.length:=by omega
  exact Db B v l c b W ho hx hl hB
end Pr
end Go.Proofs.YtghlpefopidlaaaGreat
