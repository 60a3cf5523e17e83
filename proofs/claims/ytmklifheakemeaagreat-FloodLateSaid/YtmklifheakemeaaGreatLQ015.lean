/-
  Name of package tupl. Conditions as told.
-/
import Derived.Maps.OwnSet
import Derived.DeepKeys4
import Derived.KernelRfl
import Derived.Test.YtmklifheakemeaaGreatLQ010
set_option maxRecDepth 100000
set_option maxHeartbeats 64000000
open _root_.Bool renaming false->aF,true->aU
open _root_.Go renaming World->aI,Calls->aS,Value->aT
open Go.Builtin renaming copy_->aH,append_->aQ
open Go.Ending renaming returned->aA
open Go.Instr renaming sliceAt->Z
open Go.IntKind renaming i64->X,wrap_i64->aO
open Go.Lib renaming hid->D,toList_data->aR
open Go.Obj renaming cells->ah
open Go.Proofs.Tryz renaming prog->K,ntmps116->aj,func116->au,ntmps145->aL,func145->aM
open Go.RowKit.Below renaming refl->aB
open Go.Value renaming slice->J,int->V,string->Y,bool->aV
open _root_.List renaming getElem?_map->ak,getElem?_eq_getElem->ay,length_map->aC,take_add_one->aN,take_length->aP
open _root_.Nat renaming lt_or_ge->aG,zero_le->aJ,le_refl->aK
open _root_.Option renaming none->O,some->U
open Option.some renaming inj->aD
namespace Go.Proofs.YtmklifheakemeaaGreat
namespace Pr
open Go.RowKit Go.Sort Pu Rw Va
theorem Jw (s:ByteArray) (w:aI) (hs:s.size<=maxLen) :
  aS K 155 #[Y s] w fun e w'=>e=aA (aV (kV s))/\w=w':=by
 unfold maxLen at hs;go_enter Tryz.func155,Tryz.ntmps155;go_wp2
 go_loop [6] (fun i=>∃ k:Nat,k<=s.size/\i=V X k/\∀ (j:Nat) (hj:j<s.size),j<k->uD s[j]=aU) (fun i=>s.size-(intOf i).toNat)
 case atStart=>exact⟨0,aJ _,rfl,fun j hj h=>by omega⟩
 case round =>
  obtain⟨k,hk,rfl,hall⟩:=hrel;have AL:=D hall;clear hall;by_cases hlt:k<s.size
  ·have hcl:(s[k].toNat:Int)<256:=by have:=s[k].toNat_lt; omega
   by_cases h1:97<=s[k].toNat
   ·by_cases h2:s[k].toNat<=122
    ·have L:=D (show uD s[k]=aU by simp [uD,h1,h2]);have d1:decide ((s[k].toNat:Int)<97)=aF:=by simp; omega
     have d2:decide ((122:Int)<(s[k].toNat:Int))=aF:=by simp; omega
     clear h1 h2;go_wp2
     go_round
     case rel=>exact⟨k+1,by omega,by go_num,fun j hj h=>by
      rcases aG j k with h3|h3
      ·exact AL.out j hj h3
      ·obtain rfl:j=k:=by omega
       exact L.out⟩
     case measure=>simp [intOf]; omega
    ·have R:=D (show kV s=aF from xY s k hlt (by simp [uD,h2]));have d1:decide ((s[k].toNat:Int)<97)=aF:=by simp; omega
     have d2:decide ((122:Int)<(s[k].toNat:Int))=aU:=by simp; omega
     clear h1 h2;go_wp2;go_ret;exact⟨dP R.out.symm,rfl⟩
   ·have R:=D (show kV s=aF from xY s k hlt (by simp [uD,h1]));have d1:decide ((s[k].toNat:Int)<97)=aU:=by simp; omega
    clear h1;go_wp2;go_ret;exact⟨dP R.out.symm,rfl⟩
  ·obtain rfl:k=s.size:=by omega
   have R:=D (IL s (fun j hj=>AL.out j hj hj));by_cases h1:1<=s.size
   ·have R2:=D (show kV s=decide ((s.size:Int)<=12) by rw [R.out]; simp [h1]; omega);go_wp2;go_ret;exact⟨dP R2.out.symm,rfl⟩
   ·have R2:=D (show kV s=aF by rw [R.out]; simp [h1]);have d1:decide ((1:Int)<=(s.size:Int))=aF:=by simp; omega
    go_wp2;go_ret;exact⟨dP R2.out.symm,rfl⟩
theorem oB (w:aI) (nm:ByteArray) (k lo hi:Int) (u:ByteArray):Below w.heap.size w (w.alloc (ah #[Y nm,V X k,V X lo,V X hi,Y u] 70)) :=
 (aB w.heap.size w).alloc (aK _) _
theorem QG (c:Cn) (w:aI) (hs:c.1.size<=maxLen):aS K 116 #[cv (r5 c)] w fun e w'=>e=aA (aV (pY c))/\Below w.heap.size w w':=by
 obtain⟨nm,k⟩:=c;have NA:=D (Jw nm (w.alloc (ah #[Y nm,V X (kN k),V X (iJ k),V X (iK k),Y (kT k)] 70)) hs);have B:=D (oB w nm (kN k) (iJ k) (iK k) (kT k));have R:=D (show pY (nm,k)=(kV nm && gQ k) from rfl);clear hs;generalize pY (nm,k)=r at *;obtain⟨q,hq⟩:∃ q,kV nm=q:=⟨_,rfl⟩;rw [hq] at NA R;clear hq;cases k with
 | rg lo hi =>
  simp only [r5,kN,iJ,iK,kT] at *;cases q
  ·go_enter au,aj;go_wp2_with fail;refine NA.out.mono ?_;rintro e w' ⟨rfl,rfl⟩;go_wp2;go_ret;exact⟨dP (by rw [R.out]; simp),B.out⟩
  ·by_cases h1:lo<=hi <;> have H1:=D h1
   all_goals
    go_enter au,aj;go_wp2_with fail;refine NA.out.mono ?_;rintro e w' ⟨rfl,rfl⟩;go_wp2;go_ret;exact⟨dP (by rw [R.out]; have h:=H1.out; simp [gQ,h] <;> omega),B.out⟩
 | tx u =>
  simp only [r5,kN,iJ,iK,kT] at *;cases q
  ·go_enter au,aj;go_wp2_with fail;refine NA.out.mono ?_;rintro e w' ⟨rfl,rfl⟩;go_wp2;go_ret;exact⟨dP (by rw [R.out]; simp),B.out⟩
  ·go_enter au,aj;go_wp2_with fail;refine NA.out.mono ?_;rintro e w' ⟨rfl,rfl⟩;go_wp2;go_ret;exact⟨dP (by rw [R.out]; simp [gQ]; omega),B.out⟩
 | pr u =>
  simp only [r5,kN,iJ,iK,kT] at *;cases q
  ·go_enter au,aj;go_wp2_with fail;refine NA.out.mono ?_;rintro e w' ⟨rfl,rfl⟩;go_wp2;go_ret;exact⟨dP (by rw [R.out]; simp),B.out⟩
  ·by_cases h1:u.size<12
   ·have e1:decide ((12:Int)<=(u.size:Int))=aF:=by simp; omega
    have e2:decide ((u.size:Int)<=12)=aU:=by simp; omega
    have H1:=D h1;clear h1;go_enter au,aj;go_wp2_with fail;refine NA.out.mono ?_;rintro e w' ⟨rfl,rfl⟩;go_wp2;go_ret;exact⟨dP (by rw [R.out]; have h:=H1.out; simp [gQ,h]),B.out⟩
   ·have e1:decide ((12:Int)<=(u.size:Int))=aU:=by simp; omega
    have H1:=D h1;clear h1;go_enter au,aj;go_wp2_with fail;refine NA.out.mono ?_;rintro e w' ⟨rfl,rfl⟩;go_wp2;go_ret;exact⟨dP (by rw [R.out]; have h:=H1.out; simp [gQ]; omega),B.out⟩
end Pr
namespace Av
open Go.RowKit Rw YtmklifheakemeaaGreat.Nm Pr Bk
theorem Lh {W:aI} {b:Nat} {c:fB} (h:dI W b (jP c).toArray 31):zH W (J (U ⟨b,0,O⟩) 1 1) [c] :=
 Or.inr ⟨⟨b,0,O⟩,1,rfl,by simp,by decide,oQ h (by simp [EJ])⟩
def vM (B:Nat) (l:List fB) (k:Nat) (c:fB) (vv:aT) (W:aI) (e:Ending) (w':aI):Prop:=∃ v',e=aA v'/\Am w' B v' (l.take k++c::l.drop k)/\Below B W w'/\(∀ j,j<W.heap.size->U j≠vv.ownBlock->w'.heap[j]?=W.heap[j]?)
theorem AX (B:Nat) (v:aT) (l:List fB) (c:fB) (b:Nat) (W:aI) (ho:Am W B v l) (hx:dI W b (jP c).toArray 31) (hl:l.length<=900) (hB:B<=W.heap.size) :
  aS K 145 #[v,V X (l.length:Nat),J (U ⟨b,0,O⟩) 1 1] W (vM B l l.length c v W):=by
 obtain⟨v',w',hr,ho2,hg⟩:=ji DI B ho (Lh hx) (by omega) (by simp) hB 24;have hr:(aQ #[24,24] 24 #[v,J (U ⟨b,0,O⟩) 1 1]).run K W=.ok v' w':=hr;have Q:=D (show vM B l l.length c v W (aA v') w' from ⟨v',rfl,by rw [List.take_of_length_le (aK _),List.drop_of_length_le (aK _)]; exact ho2,(aB B W).grown hg hB (fun j hj=>(ho.lt j hj).1),fun j hj hne=>hg.block j hj hne⟩);obtain⟨sx,hs,_⟩:=rU DI (Row.dG ho) l.length (aK _);have hs:∀ w,(Z 24 v (U (V X l.length)) O O).run K w=.ok sx w:=hs;obtain⟨ao,ac,rfl⟩:=(Row.dG ho).len;clear ho ho2 hg;generalize hn:l.length=n at *;clear hn;go_enter aM,aL;go_wp2_with (first | (at_builtin; refine wpList_append_run rfl _ _ 24 rfl rfl rfl hr ?_) | fail);go_ret;exact Q.out
theorem Li (w:aI) (g b k la lb cb:Nat) (cur cs:Array aT) (hb:dI w b cs 31) (hg:dI w g cur 31) (hne:b≠g) (h0:0<cur.size):(callFunc 168 #[J (U ⟨b,0,O⟩) la 1,J (U ⟨g,k,O⟩) lb cb]).run K w=.ok (.value (aV aF)) w:=by
 rw [run_callFunc_extern Tryz.func168 (by kernel_rfl) (by kernel_rfl) (by kernel_rfl) (e:=Extern.SlicesOverlaps.overlaps #[24,24] #[4]) (by kernel_rfl),
  Lib.run_overlaps_apart w 24 4 31 Tryz.underlying24 2 Tryz.sizeOf31 ⟨b,0,O⟩ ⟨g,k,O⟩ la 1 lb cb hne 31 31 cs.size cur.size hb.shape hg.shape (by omega) (hb.fr 0) (hb.fr _)]
 rfl
theorem xM (B g n cap:Nat) (cur:Array aT) (l:List fB) (k:Nat) (c:fB) (b:Nat) (W:aI) (hn:n=l.length) (hBg:B<=g) (hg:dI W g cur 31) (hcm:cap<=maxLen) (hsz:cur.size=cap * 2) (ht:cur.toList.take (n * 2)=flat EJ l) (hx:dI W b (jP c).toArray 31) (hne:b≠g) (hk:k<n) (hroom:n+1<=cap) (hl:n<=900) :
  aS K 145 #[J (U ⟨g,0,O⟩) n cap,V X k,J (U ⟨b,0,O⟩) 1 1] W (vM B l k c (J (U ⟨g,0,O⟩) n cap) W):=by
 obtain⟨R1,R2,r1,r2,ow⟩:=oU (E:=EJ) (l:=l) (k:=k) (cap:=cap) (cur:=cur) (cs:=(jP c).toArray) (c:=c) DI (by omega) (by omega) hsz (by rw [<- hn]; exact ht) g b hne;have hov:=fun lb cb=>Li W g b ((k+1) * 2) 1 lb cb cur (jP c).toArray hx hg hne (by omega);have s0:=gK (E:=EJ) DI g k n cap (by omega) (by omega);have s1:=jc (E:=EJ) DI ⟨g,0,O⟩ (n+1) n cap (by omega);have s2:=gK (E:=EJ) DI g (k+1) (n+1) cap (by omega) (by omega);have s3:=gK (E:=EJ) DI g k (n+1) cap (by omega) (by omega);have q1:=r1 W.drew 3 (n+1-(k+1)) (cap-(k+1)) (n+1-k) (cap-k) hg (by omega);have q2:=r2 (W.drew.setRow g R1) 3 (n+1-k) (cap-k) (dI.set (show dI W.drew g cur 31 from hg) R1) (dI.other (show dI W.drew b _ 31 from hx) hne R1) rfl (by omega);have Q:=D (show vM B l k c (J (U ⟨g,0,O⟩) n cap) W (aA (J (U ⟨g,0,O⟩) (n+1) cap)) ((W.drew.setRow g R1).setRow g R2) from ⟨_,rfl,by rw [hn]; exact ow _ B hBg hcm (dI.set (dI.set (show dI W.drew g cur 31 from hg) R1) R2),below_setRow (below_setRow (aB B W).drew hBg _) hBg _,fun j hj hne=>(setRow_other _ g j _ (fun e=>hne (by rw [e]; rfl))).trans (setRow_other _ g j _ (fun e=>hne (by rw [e]; rfl)))⟩);clear r1 r2 ow hg ht hx hsz hBg hcm;change ∀ w,(Z 24 (J (U ⟨g,0,O⟩) n cap) (U (V X k)) O O).run K w=.ok (J (U ⟨g,k * 2,O⟩) (n-k) (cap-k)) w at s0;change ∀ w,(Z 24 (J (U ⟨g,0,O⟩) n cap) O (U (V X ((n:Int)+1))) O).run K w=.ok (J (U ⟨g,0,O⟩) (n+1) cap) w at s1;change ∀ w,(Z 24 (J (U ⟨g,0,O⟩) (n+1) cap) (U (V X ((k:Int)+1))) O O).run K w=.ok (J (U ⟨g,(k+1) * 2,O⟩) (n+1-(k+1)) (cap-(k+1))) w at s2;change ∀ w,(Z 24 (J (U ⟨g,0,O⟩) (n+1) cap) (U (V X k)) O O).run K w=.ok (J (U ⟨g,k * 2,O⟩) (n+1-k) (cap-k)) w at s3;have e1:((k:Int) == (n:Int))=aF:=by rw [beq_eq_false_iff_ne]; omega
 have e2:decide ((cap:Int)<(n:Int)+1)=aF:=by simp; omega
 change (aH #[24,24] 3 #[J (U ⟨g,(k+1) * 2,O⟩) (n+1-(k+1)) (cap-(k+1)),J (U ⟨g,k * 2,O⟩) (n+1-k) (cap-k)]).run K W.drew=.ok (V X ((l.length-k:Nat):Int)) (W.drew.setRow g R1) at q1;change (aH #[24,24] 3 #[J (U ⟨g,k * 2,O⟩) (n+1-k) (cap-k),J (U ⟨b,0,O⟩) 1 1]).run K (W.drew.setRow g R1)=.ok (V X 1) ((W.drew.setRow g R1).setRow g R2) at q2;clear hn;go_enter aM,aL;go_wp2_with (first | (simp only [hov]) | fail);clear hov s0 s1 s2 s3;have hw1:IntKind.i64.wrap ((k:Int)+1)=(k:Int)+1:=by rw [aO]; omega
 have hb1:(0:Int)<=(k:Int)+1:=by omega
 have hb0:(k:Int)+1<=(n:Int)+1:=by omega
 have htn:((k:Int)+1).toNat=k+1:=by omega
 have hb2:¬ (cap=k+1):=by omega
 have hb3:(k:Int)<=(n:Int)+1:=by omega
 have hb4:¬ (cap=k):=by omega
 have h81:n+1-(k+1)=n-k:=by omega
 rw [h81] at q1;clear h81
 go_region_law (refine gZ rfl (.tmp 73) (.tmp 76) 24 rfl (v:=J (U ⟨g,(k+1) * 2,O⟩) (n-k) (cap-(k+1))) (xv:=J (U ⟨g,k * 2,O⟩) (n+1-k) (cap-k)) (by simp [Act.eval,Act.put]) (by simp [Act.eval,Act.put]) q1 ?_)
 all_goals simp only [Exit.then]
 all_goals apply_assumption
 clear q1 hw1 hb1 hb0 htn hb2 hb3 hb4;have s3:=gK (E:=EJ) DI g k (n+1) cap (by omega) (by omega);change ∀ w,(Z 24 (J (U ⟨g,0,O⟩) (n+1) cap) (U (V X k)) O O).run K w=.ok (J (U ⟨g,k * 2,O⟩) (n+1-k) (cap-k)) w at s3;go_wp2_with (first | (at_builtin; refine wpList_copy_run rfl _ _ 24 rfl rfl rfl q2 ?_) | fail);go_ret;exact Q.out
theorem zN (B g n cap:Nat) (cur:Array aT) (l:List fB) (k:Nat) (c:fB) (b:Nat) (W:aI) (hn:n=l.length) (hg:dI W g cur 31) (hcm:cap<=maxLen) (hnc:n<=cap) (ht:cur.toList.take (n * 2)=flat EJ l) (hx:dI W b (jP c).toArray 31) (hk:k<n) (hroom:cap<n+1) (hl:n<=900) (hB:B<=W.heap.size) :
  aS K 145 #[J (U ⟨g,0,O⟩) n cap,V X k,J (U ⟨b,0,O⟩) 1 1] W (vM B l k c (J (U ⟨g,0,O⟩) n cap) W):=by
 have hgw:=hg.lt;have hbw:=hx.lt;obtain⟨G,R1,R2,R3,hG1,hG2,r1,r2,r3,ow⟩:=qF (E:=EJ) (l:=l) (k:=k) (cap:=cap) (cur:=cur) (cs:=(jP c).toArray) (c:=c) DI 3 Tryz.underlying3 (by omega) (by omega) (by omega) (by omega) (by rw [<- hn]; exact ht) W g b hg hbw;unfold maxLen at hcm hG2;have s0:=gK (E:=EJ) DI g k n cap (by omega) (by omega);have s1:=jc (E:=EJ) DI ⟨g,0,O⟩ k n cap (by omega);have s2:=gK (E:=EJ) DI W.heap.size k (n+1) G (by omega) (by omega);have s3:=gK (E:=EJ) DI W.heap.size (k+1) (n+1) G (by omega) (by omega);have a1:=r1 24;have n1:=dL W.drew R1 31;have bl:W.drew.heap.size=W.heap.size:=rfl;rw [bl] at n1;have g1:dI (W.drew.alloc (ah R1 31)) g cur 31:=dI.more (show dI W.drew g cur 31 from hg) _;have x1:dI (W.drew.alloc (ah R1 31)) b (jP c).toArray 31:=dI.more (show dI W.drew b _ 31 from hx) _;have q2:=r2 (W.drew.alloc (ah R1 31)) 3 (n+1-k) (G-k) n1 x1 rfl (by omega);have q3:=r3 ((W.drew.alloc (ah R1 31)).setRow W.heap.size R2).drew 3 (n+1-(k+1)) (G-(k+1)) (n-k) (cap-k) (dI.set n1 R2) (dI.other g1 (by omega) R2) (by omega);have Q:=D (show vM B l k c (J (U ⟨g,0,O⟩) n cap) W (aA (J (U ⟨W.heap.size,0,O⟩) (n+1) G)) (((W.drew.alloc (ah R1 31)).setRow W.heap.size R2).drew.setRow W.heap.size R3) from ⟨_,rfl,by rw [hn]; exact ow _ B hB (dI.set (dI.set n1 R2) R3),below_setRow (below_setRow ((aB B W).drew.alloc hB _) hB _).drew hB _,fun j hj _=>(setRow_other _ W.heap.size j _ (by omega)).trans ((setRow_other _ W.heap.size j _ (by omega)).trans (Array.getElem?_push_lt hj |>.trans (Array.getElem?_eq_getElem hj).symm))⟩);have l1:l.length+1=n+1:=by rw [hn]
 rw [l1,<- hn] at a1;clear r1 r2 r3 ow hg ht hx g1 x1 n1 bl l1;change ∀ w,(Z 24 (J (U ⟨g,0,O⟩) n cap) (U (V X k)) O O).run K w=.ok (J (U ⟨g,k * 2,O⟩) (n-k) (cap-k)) w at s0;change ∀ w,(Z 24 (J (U ⟨g,0,O⟩) n cap) O (U (V X k)) O).run K w=.ok (J (U ⟨g,0,O⟩) k cap) w at s1;change ∀ w,(Z 24 (J (U ⟨W.heap.size,0,O⟩) (n+1) G) (U (V X k)) O O).run K w=.ok (J (U ⟨W.heap.size,k * 2,O⟩) (n+1-k) (G-k)) w at s2;change ∀ w,(Z 24 (J (U ⟨W.heap.size,0,O⟩) (n+1) G) (U (V X ((k:Int)+1))) O O).run K w=.ok (J (U ⟨W.heap.size,(k+1) * 2,O⟩) (n+1-(k+1)) (G-(k+1))) w at s3;change (aQ #[24,3] 24 #[J (U ⟨g,0,O⟩) k cap,V X ((n:Int)+1-k)]).run K W=.ok (J (U ⟨W.heap.size,0,O⟩) (n+1) G) (W.drew.alloc (ah R1 31)) at a1;change (aH #[24,24] 3 #[J (U ⟨W.heap.size,k * 2,O⟩) (n+1-k) (G-k),J (U ⟨b,0,O⟩) 1 1]).run K (W.drew.alloc (ah R1 31))=.ok (V X 1) ((W.drew.alloc (ah R1 31)).setRow W.heap.size R2) at q2;change (aH #[24,24] 3 #[J (U ⟨W.heap.size,(k+1) * 2,O⟩) (n+1-(k+1)) (G-(k+1)),J (U ⟨g,k * 2,O⟩) (n-k) (cap-k)]).run K ((W.drew.alloc (ah R1 31)).setRow W.heap.size R2).drew=.ok (V X ((l.length-k:Nat):Int)) (((W.drew.alloc (ah R1 31)).setRow W.heap.size R2).drew.setRow W.heap.size R3) at q3;have e1:((k:Int) == (n:Int))=aF:=by rw [beq_eq_false_iff_ne]; omega
 have e2:decide ((cap:Int)<(n:Int)+1)=aU:=by simp; omega
 have hGn:n+1<=G:=by omega
 clear hn;generalize W.heap.size=N at *;generalize W.drew.alloc (ah R1 31)=W1 at *;generalize W1.setRow N R2=W2 at *;go_enter aM,aL;go_wp2_with (first | (at_builtin; refine iA rfl _ _ 24 3 rfl rfl rfl a1 ?_) | (at_builtin; refine wpList_copy_run rfl _ _ 24 rfl rfl rfl q2 ?_) | fail);clear a1 q2 s0 s1 s2 s3;have hw1:IntKind.i64.wrap ((k:Int)+1)=(k:Int)+1:=by rw [aO]; omega
 have hb1:(0:Int)<=(k:Int)+1:=by omega
 have hb0:(k:Int)+1<=(n:Int)+1:=by omega
 have htn:((k:Int)+1).toNat=k+1:=by omega
 have hb2:¬ (G=k+1):=by omega
 have hb3:(k:Int)<=(n:Int):=by omega
 have hb4:¬ (cap=k):=by omega
 have h81:n+1-(k+1)=n-k:=by omega
 rw [h81] at q3;clear h81
 go_region_law (refine gZ rfl (.tmp 50) (.tmp 53) 24 rfl (v:=J (U ⟨N,(k+1) * 2,O⟩) (n-k) (G-(k+1))) (xv:=J (U ⟨g,k * 2,O⟩) (n-k) (cap-k)) (by simp [Act.eval,Act.put]) (by simp [Act.eval,Act.put]) q3 ?_)
 all_goals simp only [Exit.then]
 all_goals apply_assumption
 go_wp2;go_ret;exact Q.out
theorem AY (B:Nat) (v:aT) (l:List fB) (k:Nat) (c:fB) (b:Nat) (W:aI) (ho:Am W B v l) (hx:dI W b (jP c).toArray 31) (hne:v.ownBlock≠U b) (hk:k<=l.length) (hl:l.length<=900) (hB:B<=W.heap.size) :
  aS K 145 #[v,V X k,J (U ⟨b,0,O⟩) 1 1] W (vM B l k c v W):=by
 rcases aG k l.length with h|h
 ·rcases gq ho with⟨_,h2⟩|⟨g,cap,cur,rfl,h1,h2,h3,h4,h5,h6⟩
  ·rw [h2] at h; simp at h
  ·rcases aG cap (l.length+1) with h7|h7
   ·exact zN B g _ cap cur l k c b W rfl h2 h4 h3 h6 hx h h7 hl hB
   ·exact xM B g _ cap cur l k c b W rfl h1 h2 h4 h5 h6 hx (fun e=>hne (by simp [Value.ownBlock,e])) h h7 hl
 ·obtain rfl:k=l.length:=by omega
  exact AX B v l c b W ho hx hl hB
end Av
namespace Av
open Go.RowKit Rw Bk Go.Maps Go.ChangeMaps
end Av
namespace Rl
open Go.RowKit Pu Rw Pr Va
def sD (x y:Cn):Bool:=decide (y.1=x.1) && eF y.2 x.2
theorem Lj {α:Type} (f:α->Bool) (l:List α) (k:Nat) (y:α) (h:l[k]?=U y):(l.take (k+1)).any f=((l.take k).any f || f y):=by
 rw [aN,h,List.any_append];simp
theorem AZ {α:Type} (f:α->Bool) (l:List α) (k:Nat) (y:α) (h:l[k]?=U y):(l.take (k+1)).all f=((l.take k).all f && f y):=by
 rw [aN,h,List.all_append];simp
theorem Gn {α:Type} (f:α->Bool) (l:List α) (k:Nat) (y:α) (h:l[k]?=U y) (hf:f y=aF):l.all f=aF:=by
 rw [List.all_eq_false];exact⟨y,List.mem_of_getElem? h,by simp [hf]⟩
theorem str_eq (a b:ByteArray) (h:a=b):(a.toList == b.toList)=aU:=by simp [h]
theorem Ve (a b:ByteArray) (h:¬ a=b):(a.toList == b.toList)=aF:=by
 rw [beq_eq_false_iff_ne];intro e;rw [aR,aR] at e;exact h (mF e)
theorem A8 (nA bv:aT) (a b:List Cn) (w:aI) (ha:eY w nA (a.map r5)) (hb:eY w bv (b.map r5)) (hl:a.length<=100) (hm:b.length<=100) :
  aS K 153 #[nA,bv] w fun e w'=>e=aA (aV (lV a b))/\Below w.heap.size w w':=by
 have HA:=D ha;have HB:=D hb;have CO:=D (show lV a b=a.all fun x=>b.any (sD x) from rfl);obtain⟨ao,ac,rfl⟩:=ha.len;obtain⟨bo,bc,rfl⟩:=hb.len;clear ha hb;rw [aC] at HA HB ⊢;rw [aC];generalize lV a b=r at *;generalize hn:a.length=n at *;generalize hm':b.length=m at *;have HN:=D hn;have HM:=D hm';clear hn hm';go_enter Tryz.func153,Tryz.ntmps153;go_wp2
 go_loopw [12] (fun i wr=>∃ k:Nat,k<=n/\i=V X k/\Below w.heap.size w wr/\(a.take k).all (fun x=>b.any (sD x))=aU) (fun i _=>n-(intOf i).toNat)
 case atStart=>exact⟨0,aJ _,rfl,aB _ _,rfl⟩
 case round =>
  obtain⟨k,hk,rfl,hbe,hall⟩:=hrel;have BE:=D hbe;have AL:=D hall;clear hbe hall;by_cases hlt:k<n
  ·obtain⟨x,hx⟩:∃ x,a[k]?=U x:=⟨_,ay (by rw [HN.out]; exact hlt)⟩;obtain⟨p,ix,px⟩:=Qi HA.out rfl (by rw [aC]; exact HN.out) (show (a.map r5)[k]?=U (r5 x) by rw [ak,hx]; rfl);have p0:=(px _ BE.out).1;have p1:=(px _ BE.out).2.1;have p2:=(px _ BE.out).2.2.1;have p3:=(px _ BE.out).2.2.2.1;have p4:=(px _ BE.out).2.2.2.2;have HX:=D hx;have B1:=D (BE.out.alloc BE.out.size (ah #[Y (r5 x).1,V X (r5 x).2.1,V X (r5 x).2.2.1,V X (r5 x).2.2.2.1,Y (r5 x).2.2.2.2] 70));have Z1:=D (show wr.heap.size<(wr.alloc (ah #[Y (r5 x).1,V X (r5 x).2.1,V X (r5 x).2.2.1,V X (r5 x).2.2.2.1,Y (r5 x).2.2.2.2] 70)).heap.size by simp);have e0:(wr.alloc (ah #[Y (r5 x).1,V X (r5 x).2.1,V X (r5 x).2.2.1,V X (r5 x).2.2.2.1,Y (r5 x).2.2.2.2] 70)).cell? ⟨wr.heap.size,0,O⟩=U (Y (r5 x).1):=by simp [go_sem]
   have e1:(wr.alloc (ah #[Y (r5 x).1,V X (r5 x).2.1,V X (r5 x).2.2.1,V X (r5 x).2.2.2.1,Y (r5 x).2.2.2.2] 70)).cell? ⟨wr.heap.size,1,O⟩=U (V X (r5 x).2.1):=by simp [go_sem]
   have e2:(wr.alloc (ah #[Y (r5 x).1,V X (r5 x).2.1,V X (r5 x).2.2.1,V X (r5 x).2.2.2.1,Y (r5 x).2.2.2.2] 70)).cell? ⟨wr.heap.size,2,O⟩=U (V X (r5 x).2.2.1):=by simp [go_sem]
   have e3:(wr.alloc (ah #[Y (r5 x).1,V X (r5 x).2.1,V X (r5 x).2.2.1,V X (r5 x).2.2.2.1,Y (r5 x).2.2.2.2] 70)).cell? ⟨wr.heap.size,3,O⟩=U (V X (r5 x).2.2.2.1):=by simp [go_sem]
   have e4:(wr.alloc (ah #[Y (r5 x).1,V X (r5 x).2.1,V X (r5 x).2.2.1,V X (r5 x).2.2.2.1,Y (r5 x).2.2.2.2] 70)).cell? ⟨wr.heap.size,4,O⟩=U (Y (r5 x).2.2.2.2):=by simp [go_sem]
   clear px hx;go_wp2;generalize wr.alloc (ah #[Y (r5 x).1,V X (r5 x).2.1,V X (r5 x).2.2.1,V X (r5 x).2.2.2.1,Y (r5 x).2.2.2.2] 70)=W1 at *;generalize wr.heap.size=bx at *;have E0:=D e0;have E1:=D e1;have E2:=D e2;have E3:=D e3;have E4:=D e4;clear e0 e1 e2 e3 e4 ix p0 p1 p2 p3 p4
   go_loopw [7,18] (fun v i wi=>∃ j:Nat,j<=m/\i=V X j/\v=aV ((b.take j).any (sD x))/\Below W1.heap.size W1 wi) (fun _ i _=>m-(intOf i).toNat)
   case atStart=>exact⟨0,aJ _,rfl,rfl,aB _ _⟩
   case round =>
    obtain⟨j,hj,rfl,rfl,hbi⟩:=hrel;have BI:=D hbi;have TK:=D (B1.out.trans (hbi.mono B1.out.size));clear hbi;by_cases hjt:j<m
    ·obtain⟨y,hy⟩:∃ y,b[j]?=U y:=⟨_,ay (by rw [HM.out]; exact hjt)⟩;obtain⟨q,iy,py⟩:=Qi HB.out rfl (by rw [aC]; exact HM.out) (show (b.map r5)[j]?=U (r5 y) by rw [ak,hy]; rfl);have q0:=(py _ TK.out).1;have q1:=(py _ TK.out).2.1;have q2:=(py _ TK.out).2.2.1;have q3:=(py _ TK.out).2.2.2.1;have q4:=(py _ TK.out).2.2.2.2;have MO:=D (Lj (sD x) b j y hy);have QH:=D (BI.out.alloc BI.out.size (ah #[Y (r5 y).1,V X (r5 y).2.1,V X (r5 y).2.2.1,V X (r5 y).2.2.2.1,Y (r5 y).2.2.2.2] 70));have f0:=(QH.out.cell (p:=⟨bx,0,O⟩) Z1.out).trans E0.out;have f1:=(QH.out.cell (p:=⟨bx,1,O⟩) Z1.out).trans E1.out;have f2:=(QH.out.cell (p:=⟨bx,2,O⟩) Z1.out).trans E2.out;have f3:=(QH.out.cell (p:=⟨bx,3,O⟩) Z1.out).trans E3.out;have f4:=(QH.out.cell (p:=⟨bx,4,O⟩) Z1.out).trans E4.out;clear py hy;cases hv:(b.take j).any (sD x)
     ·rw [hv] at MO;clear hv;by_cases hne:y.1=x.1
      ·have g0:=str_eq (r5 y).1 (r5 x).1 hne;have CV:=D (show sD x y=eF y.2 x.2 by simp [sD,hne]);go_wp2_with fail;refine (Az y x _).mono ?_;rintro e w2 ⟨rfl,hc⟩;have BC:=D (QH.out.trans (hc.mono QH.out.size));clear hc;go_wp2
       go_roundw
       case rel=>exact⟨j+1,by omega,by go_num,by rw [MO.out,CV.out]; rfl,BC.out⟩
       case measure=>simp [intOf]; omega
      ·have g0:=Ve (r5 y).1 (r5 x).1 hne;have CV:=D (show sD x y=aF by simp [sD,hne]);go_wp2
       go_roundw
       case rel=>exact⟨j+1,by omega,by go_num,by rw [MO.out,CV.out]; rfl,QH.out⟩
       case measure=>simp [intOf]; omega
     ·rw [hv] at MO;clear hv;go_wp2
      go_roundw
      case rel=>exact⟨j+1,by omega,by go_num,by rw [MO.out]; rfl,QH.out⟩
      case measure=>simp [intOf]; omega
    ·obtain rfl:j=m:=by omega
     have TA:=D (show (b.take j).any (sD x)=b.any (sD x) by rw [<- HM.out,aP]);have AM:=D (AZ (fun x=>b.any (sD x)) a k x HX.out);rw [TA.out];cases hv:b.any (sD x)
     ·have R:=D (show r=aF from CO.out.trans (Gn _ a k x HX.out hv));clear hv;go_wp2;go_ret;exact⟨dP R.out.symm,TK.out⟩
     ·have HV:=D hv;clear hv;go_wp2
      go_roundw
      case rel=>exact⟨k+1,by omega,by go_num,TK.out,by rw [AM.out,AL.out,HV.out]; rfl⟩
      case measure=>simp [intOf]; omega
  ·obtain rfl:k=n:=by omega
   have R:=D (show r=aU by rw [CO.out,<- AL.out,<- HN.out,aP]);go_wp2;go_ret;exact⟨dP R.out.symm,BE.out⟩
end Rl
namespace Bk
open Go.RowKit Rw YtmklifheakemeaaGreat.Nm Pr
def jo {κ:Type} [DecidableEq κ]:List κ->κ->Int
 | [],_=>-1
 | a::l,x=>if a=x then 0 else if jo l x=-1 then -1 else jo l x+1
theorem qA {κ:Type} [DecidableEq κ] (l:List κ) (x:κ) (h:∀ (j:Nat) (y:κ),l[j]?=U y->y≠x):jo l x=-1:=by
 induction l with
 | nil=>rfl
 | cons a l ih=>rw [jo,if_neg (h 0 a rfl),ih fun j y hj=>h (j+1) y (by simpa using hj),if_pos rfl]
theorem A9 {κ:Type} [DecidableEq κ] (l:List κ) (k:Nat) (x:κ) (h:l[k]?=U x) (hall:∀ (j:Nat) (z:κ),j<k->l[j]?=U z->z≠x):jo l x=k:=by
 induction l generalizing k with
 | nil=>simp at h
 | cons a l ih =>
  cases k with
  | zero =>
   obtain rfl:a=x:=by simpa using h
   rw [jo,if_pos rfl]
   rfl
  | succ k =>
   have h2:=ih k (by simpa using h) fun j z hj hz=>hall (j+1) z (by omega) (by simpa using hz);rw [jo,if_neg (hall 0 a (by omega) rfl),h2,if_neg (by omega)];omega
theorem mK {κ:Type} [DecidableEq κ] (l:List κ) (x:κ):jo l x=-1\/∃ k:Nat,jo l x=k/\l[k]?=U x:=by
 induction l with
 | nil=>exact Or.inl rfl
 | cons a l ih =>
  rw [jo];by_cases h:a=x
  ·rw [if_pos h];exact Or.inr ⟨0,rfl,by rw [h]; rfl⟩
  ·rw [if_neg h];rcases ih with h2|⟨k,h2,h3⟩
   ·rw [if_pos h2];exact Or.inl rfl
   ·rw [if_neg (by omega),h2];exact Or.inr ⟨k+1,by omega,by simpa using h3⟩
abbrev gV (e:gW):Id×Id:=((e.1,e.2.1),(e.2.2.1,e.2.2.2.1))
theorem Er (me:Int) (nv av sv ov:aT) (ev:Sl) (l:List gW) (x z:Id) (w:aI) (hs:kr w (dO ev) l) :
  aS K 108 #[.agg #[V X me,nv,av,sv,dO ev,ov],nU x,nU z] w fun e w'=>e=aA (V X (jo (l.map gV) (x,z)))/\Below w.heap.size w w':=by
 obtain⟨c,d⟩:=x;obtain⟨g,h⟩:=z;obtain⟨so,sn,sc⟩:=ev;obtain⟨ao,ac,hv⟩:=hs.len;have hv:J so sn sc=J ao l.length ac:=hv;obtain⟨rfl,rfl,rfl⟩:so=ao/\sn=l.length/\sc=ac:=by simpa using hv
 obtain⟨h0,h1,h2,h3⟩:=je w #[V X me,nv,av,sv,J so l.length sc,ov] #[V X c,V X d] #[V X g,V X h] 28 31 31;have B:=D h0;have HS:=D (hs.on h0);have X2:=D h1;have X3:=D h2;have X4:=D h3;have lm:=hs.most;unfold maxLen at lm;obtain⟨n,hn⟩:∃ n,n=l.length:=⟨_,rfl⟩;have q3:=h1.cell 4;simp only [List.getElem?_toArray,List.getElem?_cons_zero,List.getElem?_cons_succ] at q3;rw [<- hn] at HS X2 lm q3 B X3 X4 ⊢;have HN:=D hn.symm;clear h0 h1 h2 h3 hs hv hn;go_enter Tryz.func108,Tryz.ntmps108;go_upto_region 1 with fail;generalize ((w.alloc (ah #[V X me,nv,av,sv,J so n sc,ov] 28)).alloc (ah #[V X c,V X d] 31)).alloc (ah #[V X g,V X h] 31)=W at *;go_wp2
 go_loopw [12] (fun i wr=>∃ k:Nat,k<=n/\i=V X k/\Below W.heap.size W wr/\∀ (j:Nat) (y:gW),j<k->l[j]?=U y->gV y≠((c,d),(g,h))) (fun i _=>n-(intOf i).toNat)
 case atStart=>exact⟨0,aJ _,rfl,aB _ _,fun j y h=>by omega⟩
 case round =>
  obtain⟨k,hk,rfl,hbe,hall⟩:=hrel;have BE:=D hbe;have AL:=D hall;clear hbe hall;by_cases hlt:k<n
  ·obtain⟨y,hy⟩:∃ y,l[k]?=U y:=⟨_,ay (by rw [HN.out]; exact hlt)⟩;obtain⟨p,ix,px⟩:=KA HS.out rfl HN.out hy;obtain⟨p0,p1,p2,p3,p4,p5,p6⟩:=px wr BE.out;obtain⟨y1,y2,y3,y4,⟨yo,yn,yc⟩,y6,y7⟩:=y;simp only at p0 p1 p2 p3 p4 p5 p6;have NB:=D (gM wr (ah #[V X y1,V X y2,V X y3,V X y4,J yo yn yc,V X y6,aV y7] 66));obtain⟨x0,x1⟩:=((X3.out.on BE.out).on NB.out).cs2;obtain⟨z0,z1⟩:=((X4.out.on BE.out).on NB.out).cs2;have hw3:IntKind.i64.wrap ((k:Int)+1)=(k:Int)+1:=IntWalk.i64_in _ (by omega);obtain⟨r,hr⟩:∃ r,(y1 == c && y2 == d)=r:=⟨_,rfl⟩;obtain⟨t,ht⟩:∃ r,(y3 == g && y4 == h)=r:=⟨_,rfl⟩;have he:=qJ y1 y2 c d r hr;have hf:=qJ y3 y4 g h t ht;have HY:=D hy;have HR:=D hr;have HT:=D ht;clear px hy hr ht;cases r
   ·go_wp2
    go_roundw
    case rel=>exact⟨k+1,by omega,by go_num,BE.out.trans (NB.out.mono BE.out.size),fun j y' hj h1=>by
     rcases aG j k with h3|h3
     ·exact AL.out j y' h3 h1
     ·obtain rfl:j=k:=by omega
      have e1:=HY.out;rw [h1] at e1;rw [aD e1];intro e;obtain⟨⟨rfl,rfl⟩,_⟩:(y1=c/\y2=d)/\(y3=g/\y4=h):=by simpa [gV] using e
      have:=HR.out;simp at this⟩
    case measure=>simp [intOf]; omega
   ·cases t
    ·go_wp2
     go_roundw
     case rel=>exact⟨k+1,by omega,by go_num,BE.out.trans (NB.out.mono BE.out.size),fun j y' hj h1=>by
      rcases aG j k with h3|h3
      ·exact AL.out j y' h3 h1
      ·obtain rfl:j=k:=by omega
       have e1:=HY.out;rw [h1] at e1;rw [aD e1];intro e;obtain⟨_,rfl,rfl⟩:(y1=c/\y2=d)/\(y3=g/\y4=h):=by simpa [gV] using e
       have:=HT.out;simp at this⟩
     case measure=>simp [intOf]; omega
    ·go_wp2;go_ret;have h8:=HR.out;have h9:=HT.out;obtain⟨rfl,rfl⟩:y1=c/\y2=d:=by simpa using h8
     obtain⟨rfl,rfl⟩:y3=g/\y4=h:=by simpa using h9
     exact⟨by rw [A9 (l.map gV) k ((y1,y2),(y3,y4)) (by rw [ak,HY.out]; rfl) (fun j z hj hz=>by
      rw [ak] at hz;cases hl:l[j]? with
      | none=>rw [hl] at hz; cases hz
      | some q =>
       rw [hl] at hz;have hz:gV q=z:=aD hz;rw [<- hz];exact AL.out j q hj hl)]; rfl,B.out.trans ((BE.out.trans (NB.out.mono BE.out.size)).mono B.out.size)⟩
  ·obtain rfl:k=n:=by omega
   go_wp2;go_ret;have hd:jo (l.map gV) ((c,d),(g,h))=-1:=qA _ _ fun j z hz=>by
    rw [ak] at hz;cases hl:l[j]? with
    | none=>rw [hl] at hz; cases hz
    | some q =>
     rw [hl] at hz;have hz:gV q=z:=aD hz;rw [<- hz];exact AL.out j q (by rw [<- HN.out]; exact (List.getElem?_eq_some_iff.1 hl).1) hl
   exact⟨by rw [hd]; rfl,B.out.trans (BE.out.mono B.out.size)⟩
end Bk
end Go.Proofs.YtmklifheakemeaaGreat
