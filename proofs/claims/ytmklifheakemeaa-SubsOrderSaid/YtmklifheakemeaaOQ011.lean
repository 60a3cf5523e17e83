/-
  The region of Forget. Conditions as told.
-/
import Derived.Test.YtmklifheakemeaaOQ008
import Derived.Shelf.Slices.In.SortNone
import Derived.Shelf.Sort.Plain
import Derived.Shelf.Slices.CompactI
import Derived.Shelf.Slices.SearchI
set_option maxRecDepth 100000
set_option maxHeartbeats 64000000
open _root_.Bool renaming true->aC,false->bg
open _root_.Go renaming World->ah,Value->aj,Calls->bf
open Go.Builtin renaming copy_->au,append_->aJ
open Go.Instr renaming sliceAt->Y
open Go.IntKind renaming i64->aB,wrap_i64->aG
open Go.Obj renaming cells->ak
open Go.Proofs.Try renaming prog->X,underlying3->ay,underlying23->aH,ntmps50->aI,underlying0->aK,underlying4->aL,zeroValue23->aM,func50->aN,zeroValue0->aO,zeroValue3->aP,zeroValue4->aQ,sizeOf23->aS,sizeOf0->aT,sizeOf3->aU,sizeOf4->aV,isAgg23->aW,isAgg0->aX,isAgg3->aY,isAgg4->aZ
open Go.Region renaming binds->Z
open Go.Value renaming slice->O,int->aA,pointer->aF
open _root_.Nat renaming le_refl->aD,lt_or_ge->aR
open _root_.Option renaming some->J,none->U
namespace Go.Proofs.Ytmklifheakemeaa.Bk
open Go.RowKit Rw Ytmklifheakemeaa.Nm Pr
end Go.Proofs.Ytmklifheakemeaa.Bk
namespace Go.Proofs.Ytmklifheakemeaa.Av
open Go.RowKit Rw Ytmklifheakemeaa.Nm Pr Bk
theorem AY {W:ah} {b:Nat} {c:iN} (h:dz W b (cellsD c).toArray 37):vR W (O (J ⟨b,0,U⟩) 1 1) [c] :=
 Or.inr ⟨⟨b,0,U⟩,1,rfl,by simp,by decide,mJ h (by simp [ED])⟩
def oZ (B:Nat) (l:List iN) (k:Nat) (c:iN) (vv:aj) (W:ah) (e:Ending) (w':ah):Prop:=∃ v',e=.returned v'/\mo w' B v' (l.take k++c::l.drop k)/\Below B W w'/\(∀ j,j<W.heap.size->J j≠vv.ownBlock->w'.heap[j]?=W.heap[j]?)
theorem uz (B:Nat) (v:aj) (l:List iN) (c:iN) (b:Nat) (W:ah) (ho:mo W B v l) (hx:dz W b (cellsD c).toArray 37) (hl:l.length<=900) (hB:B<=W.heap.size) :
  bf X 50 #[v,aA aB (l.length:Nat),O (J ⟨b,0,U⟩) 1 1] W (oZ B l l.length c v W):=by
 obtain⟨v',w',hr,ho2,hg⟩:=jg okD B ho (AY hx) (by omega) (by simp) hB 26;have hr:(aJ #[26,26] 26 #[v,O (J ⟨b,0,U⟩) 1 1]).run X W=.ok v' w':=hr;have Q:=Lib.hid (show oZ B l l.length c v W (.returned v') w' from ⟨v',rfl,by rw [List.take_of_length_le (aD _),List.drop_of_length_le (aD _)]; exact ho2,(Below.refl B W).grown hg hB (fun j hj=>(ho.lt j hj).1),fun j hj hne=>hg.block j hj hne⟩);obtain⟨sx,hs,_⟩:=sK okD (Row.dG ho) l.length (aD _);have hs:∀ w,(Y 26 v (J (aA aB l.length)) U U).run X w=.ok sx w:=hs;obtain⟨ao,ac,rfl⟩:=(Row.dG ho).len;clear ho ho2 hg;generalize hn:l.length=n at *;clear hn;go_enter aN,aI;go_wp2_with (first | (at_builtin; refine wpList_append_run rfl _ _ 26 rfl rfl rfl hr ?_) | fail);go_ret;exact Q.out
theorem AZ (w:ah) (g b k la lb cb:Nat) (cur cs:Array aj) (hb:dz w b cs 37) (hg:dz w g cur 37) (hne:b≠g) (h0:0<cur.size):(callFunc 67 #[O (J ⟨b,0,U⟩) la 1,O (J ⟨g,k,U⟩) lb cb]).run X w=.ok (.value (.bool bg)) w:=by
 rw [run_callFunc_extern Try.func67 (by kernel_rfl) (by kernel_rfl) (by kernel_rfl) (e:=Extern.SlicesOverlaps.overlaps #[26,26] #[4]) (by kernel_rfl),
  Lib.run_overlaps_apart w 26 4 37 Try.underlying26 4 Try.sizeOf37 ⟨b,0,U⟩ ⟨g,k,U⟩ la 1 lb cb hne 37 37 cs.size cur.size hb.shape hg.shape (by omega) (hb.fr 0) (hb.fr _)]
 rfl
theorem qB (B g n cap:Nat) (cur:Array aj) (l:List iN) (k:Nat) (c:iN) (b:Nat) (W:ah) (hn:n=l.length) (hBg:B<=g) (hg:dz W g cur 37) (hcm:cap<=maxLen) (hsz:cur.size=cap * 4) (ht:cur.toList.take (n * 4)=flat ED l) (hx:dz W b (cellsD c).toArray 37) (hne:b≠g) (hk:k<n) (hroom:n+1<=cap) (hl:n<=900) :
  bf X 50 #[O (J ⟨g,0,U⟩) n cap,aA aB k,O (J ⟨b,0,U⟩) 1 1] W (oZ B l k c (O (J ⟨g,0,U⟩) n cap) W):=by
 obtain⟨R1,R2,r1,r2,ow⟩:=nD (E:=ED) (l:=l) (k:=k) (cap:=cap) (cur:=cur) (cs:=(cellsD c).toArray) (c:=c) okD (by omega) (by omega) hsz (by rw [<- hn]; exact ht) g b hne;have hov:=fun lb cb=>AZ W g b ((k+1) * 4) 1 lb cb cur (cellsD c).toArray hx hg hne (by omega);have s0:=gB (E:=ED) okD g k n cap (by omega) (by omega);have s1:=iU (E:=ED) okD ⟨g,0,U⟩ (n+1) n cap (by omega);have s2:=gB (E:=ED) okD g (k+1) (n+1) cap (by omega) (by omega);have s3:=gB (E:=ED) okD g k (n+1) cap (by omega) (by omega);have q1:=r1 W.drew 3 (n+1-(k+1)) (cap-(k+1)) (n+1-k) (cap-k) hg (by omega);have q2:=r2 (W.drew.setRow g R1) 3 (n+1-k) (cap-k) (dz.set (show dz W.drew g cur 37 from hg) R1) (dz.other (show dz W.drew b _ 37 from hx) hne R1) rfl (by omega);have Q:=Lib.hid (show oZ B l k c (O (J ⟨g,0,U⟩) n cap) W (.returned (O (J ⟨g,0,U⟩) (n+1) cap)) ((W.drew.setRow g R1).setRow g R2) from ⟨_,rfl,by rw [hn]; exact ow _ B hBg hcm (dz.set (dz.set (show dz W.drew g cur 37 from hg) R1) R2),below_setRow (below_setRow (Below.refl B W).drew hBg _) hBg _,fun j hj hne=>(setRow_other _ g j _ (fun e=>hne (by rw [e]; rfl))).trans (setRow_other _ g j _ (fun e=>hne (by rw [e]; rfl)))⟩);clear r1 r2 ow hg ht hx hsz hBg hcm;change ∀ w,(Y 26 (O (J ⟨g,0,U⟩) n cap) (J (aA aB k)) U U).run X w=.ok (O (J ⟨g,k * 4,U⟩) (n-k) (cap-k)) w at s0;change ∀ w,(Y 26 (O (J ⟨g,0,U⟩) n cap) U (J (aA aB ((n:Int)+1))) U).run X w=.ok (O (J ⟨g,0,U⟩) (n+1) cap) w at s1;change ∀ w,(Y 26 (O (J ⟨g,0,U⟩) (n+1) cap) (J (aA aB ((k:Int)+1))) U U).run X w=.ok (O (J ⟨g,(k+1) * 4,U⟩) (n+1-(k+1)) (cap-(k+1))) w at s2;change ∀ w,(Y 26 (O (J ⟨g,0,U⟩) (n+1) cap) (J (aA aB k)) U U).run X w=.ok (O (J ⟨g,k * 4,U⟩) (n+1-k) (cap-k)) w at s3;have e1:((k:Int) == (n:Int))=bg:=by rw [beq_eq_false_iff_ne]; omega
 have e2:decide ((cap:Int)<(n:Int)+1)=bg:=by simp; omega
 change (au #[26,26] 3 #[O (J ⟨g,(k+1) * 4,U⟩) (n+1-(k+1)) (cap-(k+1)),O (J ⟨g,k * 4,U⟩) (n+1-k) (cap-k)]).run X W.drew=.ok (aA aB ((l.length-k:Nat):Int)) (W.drew.setRow g R1) at q1;change (au #[26,26] 3 #[O (J ⟨g,k * 4,U⟩) (n+1-k) (cap-k),O (J ⟨b,0,U⟩) 1 1]).run X (W.drew.setRow g R1)=.ok (aA aB 1) ((W.drew.setRow g R1).setRow g R2) at q2;clear hn;go_enter aN,aI;go_wp2_with (first | (simp only [hov]) | fail);clear hov s0 s1 s2 s3;have hw1:IntKind.i64.wrap ((k:Int)+1)=(k:Int)+1:=by rw [aG]; omega
 have hb1:(0:Int)<=(k:Int)+1:=by omega
 have hb0:(k:Int)+1<=(n:Int)+1:=by omega
 have htn:((k:Int)+1).toNat=k+1:=by omega
 have hb2:¬ (cap=k+1):=by omega
 have hb3:(k:Int)<=(n:Int)+1:=by omega
 have hb4:¬ (cap=k):=by omega
 have h81:n+1-(k+1)=n-k:=by omega
 rw [h81] at q1;clear h81
 go_region_law (refine gP rfl (.tmp 73) (.tmp 76) 26 rfl (v:=O (J ⟨g,(k+1) * 4,U⟩) (n-k) (cap-(k+1))) (xv:=O (J ⟨g,k * 4,U⟩) (n+1-k) (cap-k)) (by simp [Act.eval,Act.put]) (by simp [Act.eval,Act.put]) q1 ?_)
 all_goals simp only [Exit.then]
 all_goals apply_assumption
 clear q1 hw1 hb1 hb0 htn hb2 hb3 hb4;have s3:=gB (E:=ED) okD g k (n+1) cap (by omega) (by omega);change ∀ w,(Y 26 (O (J ⟨g,0,U⟩) (n+1) cap) (J (aA aB k)) U U).run X w=.ok (O (J ⟨g,k * 4,U⟩) (n+1-k) (cap-k)) w at s3;go_wp2_with (first | (at_builtin; refine wpList_copy_run rfl _ _ 26 rfl rfl rfl q2 ?_) | fail);go_ret;exact Q.out
theorem sW (B g n cap:Nat) (cur:Array aj) (l:List iN) (k:Nat) (c:iN) (b:Nat) (W:ah) (hn:n=l.length) (hg:dz W g cur 37) (hcm:cap<=maxLen) (hnc:n<=cap) (ht:cur.toList.take (n * 4)=flat ED l) (hx:dz W b (cellsD c).toArray 37) (hk:k<n) (hroom:cap<n+1) (hl:n<=900) (hB:B<=W.heap.size) :
  bf X 50 #[O (J ⟨g,0,U⟩) n cap,aA aB k,O (J ⟨b,0,U⟩) 1 1] W (oZ B l k c (O (J ⟨g,0,U⟩) n cap) W):=by
 have hgw:=hg.lt;have hbw:=hx.lt;obtain⟨G,R1,R2,R3,hG1,hG2,r1,r2,r3,ow⟩:=oM (E:=ED) (l:=l) (k:=k) (cap:=cap) (cur:=cur) (cs:=(cellsD c).toArray) (c:=c) okD 3 ay (by omega) (by omega) (by omega) (by omega) (by rw [<- hn]; exact ht) W g b hg hbw;unfold maxLen at hcm hG2;have s0:=gB (E:=ED) okD g k n cap (by omega) (by omega);have s1:=iU (E:=ED) okD ⟨g,0,U⟩ k n cap (by omega);have s2:=gB (E:=ED) okD W.heap.size k (n+1) G (by omega) (by omega);have s3:=gB (E:=ED) okD W.heap.size (k+1) (n+1) G (by omega) (by omega);have a1:=r1 26;have n1:=dI W.drew R1 37;have bl:W.drew.heap.size=W.heap.size:=rfl;rw [bl] at n1;have g1:dz (W.drew.alloc (ak R1 37)) g cur 37:=dz.more (show dz W.drew g cur 37 from hg) _;have x1:dz (W.drew.alloc (ak R1 37)) b (cellsD c).toArray 37:=dz.more (show dz W.drew b _ 37 from hx) _;have q2:=r2 (W.drew.alloc (ak R1 37)) 3 (n+1-k) (G-k) n1 x1 rfl (by omega);have q3:=r3 ((W.drew.alloc (ak R1 37)).setRow W.heap.size R2).drew 3 (n+1-(k+1)) (G-(k+1)) (n-k) (cap-k) (dz.set n1 R2) (dz.other g1 (by omega) R2) (by omega);have Q:=Lib.hid (show oZ B l k c (O (J ⟨g,0,U⟩) n cap) W (.returned (O (J ⟨W.heap.size,0,U⟩) (n+1) G)) (((W.drew.alloc (ak R1 37)).setRow W.heap.size R2).drew.setRow W.heap.size R3) from ⟨_,rfl,by rw [hn]; exact ow _ B hB (dz.set (dz.set n1 R2) R3),below_setRow (below_setRow ((Below.refl B W).drew.alloc hB _) hB _).drew hB _,fun j hj _=>(setRow_other _ W.heap.size j _ (by omega)).trans ((setRow_other _ W.heap.size j _ (by omega)).trans (Array.getElem?_push_lt hj |>.trans (Array.getElem?_eq_getElem hj).symm))⟩);have l1:l.length+1=n+1:=by rw [hn]
 rw [l1,<- hn] at a1;clear r1 r2 r3 ow hg ht hx g1 x1 n1 bl l1;change ∀ w,(Y 26 (O (J ⟨g,0,U⟩) n cap) (J (aA aB k)) U U).run X w=.ok (O (J ⟨g,k * 4,U⟩) (n-k) (cap-k)) w at s0;change ∀ w,(Y 26 (O (J ⟨g,0,U⟩) n cap) U (J (aA aB k)) U).run X w=.ok (O (J ⟨g,0,U⟩) k cap) w at s1;change ∀ w,(Y 26 (O (J ⟨W.heap.size,0,U⟩) (n+1) G) (J (aA aB k)) U U).run X w=.ok (O (J ⟨W.heap.size,k * 4,U⟩) (n+1-k) (G-k)) w at s2;change ∀ w,(Y 26 (O (J ⟨W.heap.size,0,U⟩) (n+1) G) (J (aA aB ((k:Int)+1))) U U).run X w=.ok (O (J ⟨W.heap.size,(k+1) * 4,U⟩) (n+1-(k+1)) (G-(k+1))) w at s3;change (aJ #[26,3] 26 #[O (J ⟨g,0,U⟩) k cap,aA aB ((n:Int)+1-k)]).run X W=.ok (O (J ⟨W.heap.size,0,U⟩) (n+1) G) (W.drew.alloc (ak R1 37)) at a1;change (au #[26,26] 3 #[O (J ⟨W.heap.size,k * 4,U⟩) (n+1-k) (G-k),O (J ⟨b,0,U⟩) 1 1]).run X (W.drew.alloc (ak R1 37))=.ok (aA aB 1) ((W.drew.alloc (ak R1 37)).setRow W.heap.size R2) at q2;change (au #[26,26] 3 #[O (J ⟨W.heap.size,(k+1) * 4,U⟩) (n+1-(k+1)) (G-(k+1)),O (J ⟨g,k * 4,U⟩) (n-k) (cap-k)]).run X ((W.drew.alloc (ak R1 37)).setRow W.heap.size R2).drew=.ok (aA aB ((l.length-k:Nat):Int)) (((W.drew.alloc (ak R1 37)).setRow W.heap.size R2).drew.setRow W.heap.size R3) at q3;have e1:((k:Int) == (n:Int))=bg:=by rw [beq_eq_false_iff_ne]; omega
 have e2:decide ((cap:Int)<(n:Int)+1)=aC:=by simp; omega
 have hGn:n+1<=G:=by omega
 clear hn;generalize W.heap.size=N at *;generalize W.drew.alloc (ak R1 37)=W1 at *;generalize W1.setRow N R2=W2 at *;go_enter aN,aI;go_wp2_with (first | (at_builtin; refine iD rfl _ _ 26 3 rfl rfl rfl a1 ?_) | (at_builtin; refine wpList_copy_run rfl _ _ 26 rfl rfl rfl q2 ?_) | fail);clear a1 q2 s0 s1 s2 s3;have hw1:IntKind.i64.wrap ((k:Int)+1)=(k:Int)+1:=by rw [aG]; omega
 have hb1:(0:Int)<=(k:Int)+1:=by omega
 have hb0:(k:Int)+1<=(n:Int)+1:=by omega
 have htn:((k:Int)+1).toNat=k+1:=by omega
 have hb2:¬ (G=k+1):=by omega
 have hb3:(k:Int)<=(n:Int):=by omega
 have hb4:¬ (cap=k):=by omega
 have h81:n+1-(k+1)=n-k:=by omega
 rw [h81] at q3;clear h81
 go_region_law (refine gP rfl (.tmp 50) (.tmp 53) 26 rfl (v:=O (J ⟨N,(k+1) * 4,U⟩) (n-k) (G-(k+1))) (xv:=O (J ⟨g,k * 4,U⟩) (n-k) (cap-k)) (by simp [Act.eval,Act.put]) (by simp [Act.eval,Act.put]) q3 ?_)
 all_goals simp only [Exit.then]
 all_goals apply_assumption
 go_wp2;go_ret;exact Q.out
theorem uD (B:Nat) (v:aj) (l:List iN) (k:Nat) (c:iN) (b:Nat) (W:ah) (ho:mo W B v l) (hx:dz W b (cellsD c).toArray 37) (hne:v.ownBlock≠J b) (hk:k<=l.length) (hl:l.length<=900) (hB:B<=W.heap.size) :
  bf X 50 #[v,aA aB k,O (J ⟨b,0,U⟩) 1 1] W (oZ B l k c v W):=by
 rcases aR k l.length with h|h
 ·rcases eX ho with⟨_,h2⟩|⟨g,cap,cur,rfl,h1,h2,h3,h4,h5,h6⟩
  ·rw [h2] at h; simp at h
  ·rcases aR cap (l.length+1) with h7|h7
   ·exact sW B g _ cap cur l k c b W rfl h2 h4 h3 h6 hx h h7 hl hB
   ·exact qB B g _ cap cur l k c b W rfl h1 h2 h4 h5 h6 hx (fun e=>hne (by simp [Value.ownBlock,e])) h h7 hl
 ·obtain rfl:k=l.length:=by omega
  exact uz B v l c b W ho hx hl hB
end Go.Proofs.Ytmklifheakemeaa.Av
namespace Go.Proofs.Ytmklifheakemeaa.At
open Go.RowKit Va
abbrev V3:=Bool×Int×ByteArray
/-! ### the publications that numbers make -/
end Go.Proofs.Ytmklifheakemeaa.At
namespace Go.Proofs.Ytmklifheakemeaa.At
open Go.RowKit Go.Sort Va In
end Go.Proofs.Ytmklifheakemeaa.At
namespace Go.Proofs
open Go.Shelf
def Try.sortI_ren:Go.Shelf.Ren:=⟨fun | 189=>26 | 125=>56 | 257=>55 | 128=>81 | 129=>82 | 294=>72 | 295=>73 | 296=>74 | 297=>75 | 298=>76 | 299=>77 | 216=>78 | 300=>79 | 301=>80 | 328=>88 | 329=>89 | 330=>90 | 331=>91 | 332=>92 | 215=>71 | 343=>98 | n=>n,fun | 28=>23 | 3=>3 | 46=>100 | 0=>0 | 51=>122 | 53=>124 | 4=>4 | 183=>115 | 182=>114 | 131=>68 | 5=>5 | 9=>9 | 218=>125 | 222=>129 | 228=>138 | 229=>139 | n=>n,fun | n=>n⟩
theorem Try.sortI:Go.Proofs.Lays.n189 X Try.sortI_ren:={
 mixed:=by kernel_rfl
 f125:=Try.func56.trans (congrArg J (by kernel_rfl))
 f128:=Try.func81.trans (congrArg J (by kernel_rfl))
 f129:=Try.func82.trans (congrArg J (by kernel_rfl))
 f189:=Try.func26.trans (congrArg J (by kernel_rfl))
 f215:=Try.func71.trans (congrArg J (by kernel_rfl))
 f216:=Try.func78.trans (congrArg J (by kernel_rfl))
 f257:=Try.func55.trans (congrArg J (by kernel_rfl))
 f294:=Try.func72.trans (congrArg J (by kernel_rfl))
 f295:=Try.func73.trans (congrArg J (by kernel_rfl))
 f296:=Try.func74.trans (congrArg J (by kernel_rfl))
 f297:=Try.func75.trans (congrArg J (by kernel_rfl))
 f298:=Try.func76.trans (congrArg J (by kernel_rfl))
 f299:=Try.func77.trans (congrArg J (by kernel_rfl))
 f300:=Try.func79.trans (congrArg J (by kernel_rfl))
 f301:=Try.func80.trans (congrArg J (by kernel_rfl))
 f328:=Try.func88.trans (congrArg J (by kernel_rfl))
 f329:=Try.func89.trans (congrArg J (by kernel_rfl))
 f330:=Try.func90.trans (congrArg J (by kernel_rfl))
 f331:=Try.func91.trans (congrArg J (by kernel_rfl))
 f332:=Try.func92.trans (congrArg J (by kernel_rfl))
 f343:=Try.func98.trans (congrArg J (by kernel_rfl))
 t0:=aK
 a0:=aX
 z0:=aT
 v0:=aO
 t3:=ay
 a3:=aY
 z3:=aU
 v3:=aP
 t4:=aL
 a4:=aZ
 z4:=aV
 v4:=aQ
 t5:=Try.underlying5
 a5:=Try.isAgg5
 z5:=Try.sizeOf5
 v5:=Try.zeroValue5
 t9:=Try.underlying9
 a9:=Try.isAgg9
 z9:=Try.sizeOf9
 v9:=Try.zeroValue9
 t28:=aH
 a28:=aW
 z28:=aS
 v28:=aM
 t46:=Try.underlying100
 a46:=Try.isAgg100
 z46:=Try.sizeOf100
 v46:=Try.zeroValue100
 t51:=Try.underlying122
 a51:=Try.isAgg122
 z51:=Try.sizeOf122
 v51:=Try.zeroValue122
 t53:=Try.underlying124
 a53:=Try.isAgg124
 z53:=Try.sizeOf124
 v53:=Try.zeroValue124
 t131:=Try.underlying68
 a131:=Try.isAgg68
 z131:=Try.sizeOf68
 v131:=Try.zeroValue68
 t182:=Try.underlying114
 a182:=Try.isAgg114
 z182:=Try.sizeOf114
 v182:=Try.zeroValue114
 t183:=Try.underlying115
 a183:=Try.isAgg115
 z183:=Try.sizeOf115
 v183:=Try.zeroValue115
 t218:=Try.underlying125
 a218:=Try.isAgg125
 z218:=Try.sizeOf125
 v218:=Try.zeroValue125
 t222:=Try.underlying129
 a222:=Try.isAgg129
 z222:=Try.sizeOf129
 v222:=Try.zeroValue129
 t228:=Try.underlying138
 a228:=Try.isAgg138
 z228:=Try.sizeOf138
 v228:=Try.zeroValue138
 t229:=Try.underlying139
 a229:=Try.isAgg139
 z229:=Try.sizeOf139
 v229:=Try.zeroValue139 }
def Try.cptI_ren:Go.Shelf.Ren:=⟨fun | 20=>27 | n=>n,fun | 0=>0 | 3=>3 | 4=>4 | 22=>23 | n=>n,fun | n=>n⟩
theorem Try.cptI:Go.Proofs.Lays2.n20 X Try.cptI_ren:={
 mixed:=by kernel_rfl
 i3:=by kernel_rfl
 f20:=Try.func27.trans (congrArg J (by kernel_rfl))
 t0:=aK
 a0:=aX
 z0:=aT
 v0:=aO
 t3:=ay
 a3:=aY
 z3:=aU
 v3:=aP
 t4:=aL
 a4:=aZ
 z4:=aV
 v4:=aQ
 t22:=aH
 a22:=aW
 z22:=aS
 v22:=aM }
end Go.Proofs
namespace Go.Proofs.Ytmklifheakemeaa.Rg
open Go.RowKit
end Go.Proofs.Ytmklifheakemeaa.Rg
namespace Go.Proofs.Ytmklifheakemeaa.Rg
open Go.RowKit Rw
structure Gw (i N A S:Nat) (d last:Nat->Nat) (V:Nat->aj->ah->Prop) (base:Act) (o:Oper) (a:Act) (x:ah):Prop where
 kp:∀ j u,(∀ i,i<N->d i≠j)->base.tmps[j]?=J u->a.eval (.tmp j)=u
 at_:∀ e∈o.after,Z .any e=aC->e.on≠A->e.on≠S->(last e.on=i\/N<=last e.on)->V e.on (a.eval (.tmp (d e.on))) x
structure Pw (l:List Oper) (N A S C:Nat) (d last:Nat->Nat) (V:Nat->aj->ah->Prop) (t:TypeId) (zero:Array aj) (z8:aj->Array aj) (base:Act) (W:ah) (L:Array Bool) (a:Act) (x:ah):Prop where
 cl:∀ i o,done L i->l[i]?=J o->∀ e∈o.after,Z .any e=aC->done L e.on
 no:∀ i,N<=i->¬ done L i
 df:a.defers=base.defers
 sz:a.tmps.size=base.tmps.size
 kp:∀ j,(∀ i,i<N->d i≠j)->a.tmps[j]?=base.tmps[j]?
 lW:Below W.heap.size W x
 val:∃ vs:Nat->aj,∀ i,i<N->i≠S->done L i->a.tmps[d i]?=J (vs i)/\(i≠A->¬ done L (last i)->V i (vs i) x)
 box:done L A->¬ done L S->∃ bb,a.tmps[d A]?=J (aF (J ⟨bb,0,U⟩))/\W.heap.size<=bb/\dz x bb zero t
 fin:done L S->∃ bb v,a.tmps[d A]?=J (aF (J ⟨bb,0,U⟩))/\a.tmps[d C]?=J v/\W.heap.size<=bb/\dz x bb (z8 v) t/\V C v x
theorem nI {P:Program} {Q:Exit->Act->ah->Prop} {id:Nat} {base:Act} {W:ah} {l:List Oper} (N A S C:Nat) (d last:Nat->Nat) (V:Nat->aj->ah->Prop) (t:TypeId) (zero:Array aj) (z8:aj->Array aj)
  (hm:P.follows .mixedOrders=aC) (hf:yH l.toArray=aC) (hN:l.length=N) (hA:A<N) (hS:S<N) (hC:C<N) (Px:A≠S) (hCS:C≠S) (Py:A≠C) (KH:N<=last C)
  (hinj:∀ i j,i<N->j<N->i≠S->j≠S->d i=d j->i=j) (hs:∀ i,i<N->d i<base.tmps.size)
  (hV:∀ i v x x',i<N->V i v x->Below x.heap.size x x'->V i v x')
  (hw:∀ o,l[S]?=J o->(∃ e∈o.after,Z .any e=aC/\e.on=A)/\∃ e∈o.after,Z .any e=aC/\e.on=C)
  (hop:∀ i o,i<N->i≠A->i≠S->l[i]?=J o->∀ a x,Below W.heap.size W x->Gw i N A S d last V base o a x->∀ K:Act->ah->Prop,(∀ v x',V i v x'->Below x.heap.size x x'->K (a.put (J (d i)) v) x')->wpOp P l.toArray Q i K a x)
  (Q9:∀ o,l[A]?=J o->∀ a x,∀ K:Act->ah->Prop,K (a.put (J (d A)) (aF (J ⟨x.heap.size,0,U⟩))) (x.alloc (ak zero t))->wpOp P l.toArray Q A K a x)
  (NG:∀ o,l[S]?=J o->∀ a x bb v (D:Nat->Prop),(∀ j oj,D j->l[j]?=J oj->∀ e∈oj.after,Z .any e=aC->D e.on)->(∀ e∈o.after,Z .any e=aC->D e.on)->Below W.heap.size W x->a.eval (.tmp (d A))=aF (J ⟨bb,0,U⟩)->a.eval (.tmp (d C))=v->V C v x->W.heap.size<=bb->dz x bb zero t->∀ K:Act->ah->Prop,(∀ x',Below W.heap.size W x'->dz x' bb (z8 v) t->(∀ j u,j<N->j≠A->j≠S->D j->¬ D (last j)->last j≠S->V j u x->V j u x')->K a x')->wpOp P l.toArray Q S K a x)
  (hend:∀ a x bb v,a.defers=base.defers->a.tmps.size=base.tmps.size->(∀ j,(∀ i,i<N->d i≠j)->a.tmps[j]?=base.tmps[j]?)->a.tmps[d A]?=J (aF (J ⟨bb,0,U⟩))->a.tmps[d C]?=J v->W.heap.size<=bb->dz x bb (z8 v) t->V C v x->Below W.heap.size W x->(∃ vs:Nat->aj,∀ i,i<N->i≠S->i≠A->a.tmps[d i]?=J (vs i)/\(N<=last i->V i (vs i) x))->Q .normal a x):(Code.region id l.toArray aC).wp P Q base W:=by
 refine mq (fun L a x=>Pw l N A S C d last V t zero z8 base W L a x) hm hf ?_ ?_ ?_
 ·exact⟨fun i o h=>absurd h (fT _ _),fun i _=>fT _ _,rfl,rfl,fun _ _=>rfl,(Below.refl _ _).drew,⟨fun _=>.bool aC,fun i _ _ h=>absurd h (fT _ _)⟩,fun h=>absurd h (fT _ _),fun h=>absurd h (fT _ _)⟩
 ·intro L a x i o hsz I ho hnd kC;have hi:i<l.length:=(List.getElem?_eq_some_iff.1 ho).1;have EA:i<N:=by omega
  have vN:i<L.size:=by omega
  obtain⟨vs,hvs⟩:=I.val;have hon:∀ e∈o.after,Z .any e=aC->e.on<i:=fun e he hb=>by
   have h7:=List.all_eq_true.1 hf i (List.mem_range.2 (by simpa using hi));have ho':(l.toArray)[i]?=J o:=by simpa using ho
   rw [ho'] at h7;have h8:=Array.all_eq_true'.1 h7 e he;rw [hb] at h8;simpa using h8
  have dd:∀ {k},k≠i->done (L.setIfInBounds i aC) k->done L k:=fun {k} h h5=>((fZ vN k).1 h5).resolve_left h;have du:∀ {k},done L k->done (L.setIfInBounds i aC) k:=fun {k} h=>(fZ vN k).2 (Or.inr h);have cl':∀ k q,done (L.setIfInBounds i aC) k->l[k]?=J q->∀ e∈q.after,Z .any e=aC->done (L.setIfInBounds i aC) e.on:=fun k q hk hq e he hb=>by
   by_cases e2:k=i
   ·subst e2;rw [hq] at ho;cases ho;exact du (kC e he hb)
   ·exact du (I.cl k q (dd e2 hk) hq e he hb)
  have no':∀ k,N<=k->¬ done (L.setIfInBounds i aC) k:=fun k hk h=>I.no k hk (dd (by omega) h);have seen:Gw i N A S d last V base o a x:=⟨fun j u hj hu=>dD (by rw [I.kp j hj]; exact hu),fun e he hb hA' hS' hl=>by
   obtain⟨h1,h2⟩:=hvs e.on (by have:=hon e he hb; omega) hS' (kC e he hb);rw [dD h1];refine h2 hA' ?_;rcases hl with hl|hl
   ·rw [hl]; exact hnd
   ·exact I.no _ hl⟩
  have KI:i≠S->∀ v x',Below x.heap.size x x'->(i≠A->V i v x')->(i=A->∃ bb,v=aF (J ⟨bb,0,U⟩)/\W.heap.size<=bb/\dz x' bb zero t)->Pw l N A S C d last V t zero z8 base W (L.setIfInBounds i aC) (a.put (J (d i)) v) x':=by
   intro ou v x' hb hpv hpa;have self:(a.put (J (d i)) v).tmps[d i]?=J v:=by
    have h5:d i<a.tmps.size:=by rw [I.sz]; exact hs i EA
    simp [Act.put,h5]
   have keep:∀ k,k<N->k≠S->k≠i->(a.put (J (d i)) v).tmps[d k]?=a.tmps[d k]?:=fun k hk qC hki=>get_put _ _ _ _ (fun e=>hki (hinj _ _ hk EA qC ou e));refine⟨cl',no',I.df,by rw [size_put]; exact I.sz,fun j hj=>?_,I.lW.trans (hb.mono I.lW.size),⟨fun k=>if k=i then v else vs k,fun k hk qC hdn=>?_⟩,fun h1 h2=>?_,fun h1=>?_⟩
   ·rw [get_put _ _ _ _ (fun e=>hj i EA e.symm)];exact I.kp j hj
   ·by_cases e:k=i
    ·subst e;simp only [if_true];exact⟨self,fun h3 _=>hpv h3⟩
    ·simp only [if_neg e];obtain⟨h3,h4⟩:=hvs k hk qC (dd e hdn);exact⟨by rw [keep k hk qC e]; exact h3,fun h5 h6=>hV k _ _ _ hk (h4 h5 (fun h=>h6 (du h))) hb⟩
   ·by_cases e:A=i
    ·subst e;obtain⟨bb,rfl,h4,h5⟩:=hpa rfl;exact⟨bb,self,h4,h5⟩
    ·obtain⟨bb,h3,h4,h5⟩:=I.box (dd e h1) (fun h=>h2 (du h));exact⟨bb,by rw [keep A hA Px e]; exact h3,h4,h5.on hb⟩
   ·have h2:=dd (Ne.symm ou) h1;obtain⟨bb,u,h5,h6,h7,h8,h9⟩:=I.fin h2;obtain⟨oS,uE⟩:∃ oS,l[S]?=J oS:=⟨_,List.getElem?_eq_getElem (by omega)⟩;obtain⟨⟨ea,k1,k2,k3⟩,ec,k4,k5,k6⟩:=hw oS uE;have dA:=I.cl S oS h2 uE ea k1 k2;have dC:=I.cl S oS h2 uE ec k4 k5;rw [k3] at dA;rw [k6] at dC;have eA:A≠i:=fun e=>hnd (e ▸ dA);have eC:C≠i:=fun e=>hnd (e ▸ dC);exact⟨bb,u,by rw [keep A hA Px eA]; exact h5,by rw [keep C hC hCS eC]; exact h6,h7,h8.on hb,hV C _ _ _ hC h9 hb⟩
  by_cases ou:i=S
  ·subst ou;obtain⟨⟨ea,h1,h2,h3⟩,ec,h4,h5,h6⟩:=hw o ho;have dA:=kC ea h1 h2;have dC:=kC ec h4 h5;rw [h3] at dA;rw [h6] at dC;obtain⟨v1,v2⟩:=hvs C hC hCS dC;obtain⟨bb,b1,b2,b3⟩:=I.box dA hnd;have vC:=v2 (Ne.symm Py) (I.no _ KH);refine NG o ho a x bb (vs C) (done L) I.cl kC I.lW (dD b1) (dD v1) vC b2 b3 _ (fun x' q1 q2 q3=>⟨cl',no',I.df,I.sz,I.kp,q1,⟨vs,fun k hk qC hdn=>?_⟩,fun _ hn=>absurd ((fZ vN _).2 (Or.inl rfl)) hn,fun _=>⟨bb,vs C,b1,v1,b2,q2,?_⟩⟩)
   ·obtain⟨w1,w2⟩:=hvs k hk qC (dd qC hdn);refine⟨w1,fun Pz hnl=>?_⟩;have n1:last k≠i:=fun e=>hnl ((fZ vN _).2 (Or.inl e));have n2:¬ done L (last k):=fun e=>hnl (du e);exact q3 k _ hk Pz qC (dd qC hdn) n2 n1 (w2 Pz n2)
   ·exact q3 C _ hC (Ne.symm Py) hCS dC (I.no _ KH) (by omega) vC
  ·by_cases Gx:i=A
   ·subst Gx;refine Q9 o ho a x _ (KI ou _ _ ((Below.refl _ _).alloc (aD _) _) (fun h=>absurd rfl h) (fun _=>⟨x.heap.size,rfl,I.lW.size,dI x zero t⟩))
   ·refine hop i o EA Gx ou ho a x I.lW seen _ (fun v x' q1 q2=>KI ou v x' q2 (fun _=>q1) (fun e=>absurd e Gx))
 ·intro L a x I hd;have dS:=hd S (by omega);obtain⟨bb,v,h1,h2,h3,h4,h5⟩:=I.fin dS;obtain⟨vs,hvs⟩:=I.val;exact hend a x bb v I.df I.sz I.kp h1 h2 h3 h4 h5 I.lW ⟨vs,fun i hi ou Gx=>by
   obtain⟨k1,k2⟩:=hvs i hi ou (hd i (by omega));exact⟨k1,fun hl=>k2 Gx (I.no _ hl)⟩⟩
end Go.Proofs.Ytmklifheakemeaa.Rg
