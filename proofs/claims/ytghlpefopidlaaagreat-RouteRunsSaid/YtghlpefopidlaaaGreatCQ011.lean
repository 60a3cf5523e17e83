/-
  Names, pick, Tuple o. Conditions as told.
-/
import Derived.Test.YtghlpefopidlaaaGreatCQ006
import Derived.Maps.AppendAt
import Derived.Test.YtghlpefopidlaaaGreatCQ010
import Derived.Test.YtghlpefopidlaaaGreatCQ001
set_option maxRecDepth 100000
set_option maxHeartbeats 64000000
open _root_.Bool renaming false->ay,true->aK
open _root_.Go renaming World->aB,Calls->aI,Value->aJ
open Go.Builtin renaming copy_->ak
open Go.Ending renaming returned->au
open Go.Instr renaming sliceAt->U
open Go.IntKind renaming i64->aj,wrap_i64->aG
open Go.Lib renaming hid->V
open Go.Obj renaming cells->Z
open Go.Proofs.Tryz renaming prog->J,ntmps130->X,func130->Y,ntmps191->aC,func191->aF
open Go.Value renaming slice->D,int->ah,string->aH
open _root_.Nat renaming le_refl->aA,lt_or_ge->aD
open _root_.Option renaming none->K,some->O
namespace Go.Proofs.YtghlpefopidlaaaGreat
namespace At
open Go.RowKit Va In
def nm (i:Nat):ByteArray:=⟨#[UInt8.ofNat (97+i)]⟩
end At
namespace At
open Go.RowKit Go.Sort Va In
end At
namespace At
open Go.RowKit Go.Sort Va In
def qc (c:UInt8):Bool:=decide (97<=c.toNat) && decide (c.toNat<=122)
def jN (s:ByteArray):Bool:=s.data.toList.all qc && (decide (1<=s.size) && decide (s.size<=12))
end At
namespace Pr
open Go.RowKit Go.Sort Pu Rw Va
theorem Bb (s:ByteArray) (w:aB) (hs:s.size<=maxLen) :
  aI J 166 #[aH s] w fun e w'=>e=au (.bool (jN s))/\w=w':=by
 unfold maxLen at hs;go_enter Tryz.func166,Tryz.ntmps166;go_wp2
 go_loop [6] (fun i=>∃ k:Nat,k<=s.size/\i=ah aj k/\∀ (j:Nat) (hj:j<s.size),j<k->qc s[j]=aK) (fun i=>s.size-(intOf i).toNat)
 case atStart=>exact⟨0,Nat.zero_le _,rfl,fun j hj h=>by omega⟩
 case round =>
  obtain⟨k,hk,rfl,hall⟩:=hrel;have AL:=V hall;clear hall;by_cases hlt:k<s.size
  ·have hcl:(s[k].toNat:Int)<256:=by have:=s[k].toNat_lt; omega
   by_cases h1:97<=s[k].toNat
   ·by_cases h2:s[k].toNat<=122
    ·have L:=V (show qc s[k]=aK by simp [qc,h1,h2]);have d1:decide ((s[k].toNat:Int)<97)=ay:=by simp; omega
     have d2:decide ((122:Int)<(s[k].toNat:Int))=ay:=by simp; omega
     clear h1 h2;go_wp2
     go_round
     case rel=>exact⟨k+1,by omega,by go_num,fun j hj h=>by
      rcases aD j k with h3|h3
      ·exact AL.out j hj h3
      ·obtain rfl:j=k:=by omega
       exact L.out⟩
     case measure=>simp [intOf]; omega
    ·have R:=V (show jN s=ay from sJ s k hlt (by simp [qc,h2]));have d1:decide ((s[k].toNat:Int)<97)=ay:=by simp; omega
     have d2:decide ((122:Int)<(s[k].toNat:Int))=aK:=by simp; omega
     clear h1 h2;go_wp2;go_ret;exact⟨dW R.out.symm,rfl⟩
   ·have R:=V (show jN s=ay from sJ s k hlt (by simp [qc,h1]));have d1:decide ((s[k].toNat:Int)<97)=aK:=by simp; omega
    clear h1;go_wp2;go_ret;exact⟨dW R.out.symm,rfl⟩
  ·obtain rfl:k=s.size:=by omega
   have R:=V (Aj s (fun j hj=>AL.out j hj hj));by_cases h1:1<=s.size
   ·have R2:=V (show jN s=decide ((s.size:Int)<=12) by rw [R.out]; simp [h1]; omega);go_wp2;go_ret;exact⟨dW R2.out.symm,rfl⟩
   ·have R2:=V (show jN s=ay by rw [R.out]; simp [h1]);have d1:decide ((1:Int)<=(s.size:Int))=ay:=by simp; omega
    go_wp2;go_ret;exact⟨dW R2.out.symm,rfl⟩
theorem oB (w:aB) (nm:ByteArray) (k lo hi:Int) (u:ByteArray):Below w.heap.size w (w.alloc (Z #[aH nm,ah aj k,ah aj lo,ah aj hi,aH u] 91)) :=
 (Below.refl w.heap.size w).alloc (aA _) _
theorem Hr (c:Cn) (w:aB) (hs:c.1.size<=maxLen):aI J 130 #[cv (r5 c)] w fun e w'=>e=au (.bool (qy c))/\Below w.heap.size w w':=by
 obtain⟨nm,k⟩:=c;have NA:=V (Bb nm (w.alloc (Z #[aH nm,ah aj (kN k),ah aj (mI k),ah aj (mJ k),aH (kT k)] 91)) hs);have B:=V (oB w nm (kN k) (mI k) (mJ k) (kT k));have R:=V (show qy (nm,k)=(jN nm && gH k) from rfl);clear hs;generalize qy (nm,k)=r at *;obtain⟨q,hq⟩:∃ q,jN nm=q:=⟨_,rfl⟩;rw [hq] at NA R;clear hq;cases k with
 | rg lo hi =>
  simp only [r5,kN,mI,mJ,kT] at *;cases q
  ·go_enter Y,X;go_wp2_with fail;refine NA.out.mono ?_;rintro e w' ⟨rfl,rfl⟩;go_wp2;go_ret;exact⟨dW (by rw [R.out]; simp),B.out⟩
  ·by_cases h1:lo<=hi <;> have H1:=V h1
   all_goals
    go_enter Y,X;go_wp2_with fail;refine NA.out.mono ?_;rintro e w' ⟨rfl,rfl⟩;go_wp2;go_ret;exact⟨dW (by rw [R.out]; have h:=H1.out; simp [gH,h] <;> omega),B.out⟩
 | tx u =>
  simp only [r5,kN,mI,mJ,kT] at *;cases q
  ·go_enter Y,X;go_wp2_with fail;refine NA.out.mono ?_;rintro e w' ⟨rfl,rfl⟩;go_wp2;go_ret;exact⟨dW (by rw [R.out]; simp),B.out⟩
  ·go_enter Y,X;go_wp2_with fail;refine NA.out.mono ?_;rintro e w' ⟨rfl,rfl⟩;go_wp2;go_ret;exact⟨dW (by rw [R.out]; simp [gH]; omega),B.out⟩
 | pr u =>
  simp only [r5,kN,mI,mJ,kT] at *;cases q
  ·go_enter Y,X;go_wp2_with fail;refine NA.out.mono ?_;rintro e w' ⟨rfl,rfl⟩;go_wp2;go_ret;exact⟨dW (by rw [R.out]; simp),B.out⟩
  ·by_cases h1:u.size<12
   ·have e1:decide ((12:Int)<=(u.size:Int))=ay:=by simp; omega
    have e2:decide ((u.size:Int)<=12)=aK:=by simp; omega
    have H1:=V h1;clear h1;go_enter Y,X;go_wp2_with fail;refine NA.out.mono ?_;rintro e w' ⟨rfl,rfl⟩;go_wp2;go_ret;exact⟨dW (by rw [R.out]; have h:=H1.out; simp [gH,h]),B.out⟩
   ·have e1:decide ((12:Int)<=(u.size:Int))=aK:=by simp; omega
    have H1:=V h1;clear h1;go_enter Y,X;go_wp2_with fail;refine NA.out.mono ?_;rintro e w' ⟨rfl,rfl⟩;go_wp2;go_ret;exact⟨dW (by rw [R.out]; have h:=H1.out; simp [gH]; omega),B.out⟩
theorem Ht {W:aB} {b:Nat} {c:C5} (h:cZ W b (cells5 c).toArray 91):fI W (D (O ⟨b,0,K⟩) 1 1) [c] :=
 Or.inr ⟨⟨b,0,K⟩,1,rfl,by simp,by decide,kH h (by simp [EC])⟩
def yx (B:Nat) (l:List C5) (k:Nat) (c:C5) (W:aB) (e:Ending) (w':aB):Prop:=∃ v',e=au v'/\fV w' B v' (l.take k++c::l.drop k)/\Below B W w'
theorem yA (B:Nat) (v:aJ) (l:List C5) (c:C5) (b:Nat) (W:aB) (ho:fV W B v l) (hx:cZ W b (cells5 c).toArray 91) (hl:l.length<=100) (hB:B<=W.heap.size) :
  aI J 191 #[v,ah aj (l.length:Nat),D (O ⟨b,0,K⟩) 1 1] W (yx B l l.length c W):=by
 obtain⟨v',w',hr,ho2,hg⟩:=Ky B ho (Ht hx) (by omega) (by simp) hB;have Q:=V (show yx B l l.length c W (au v') w' from ⟨v',rfl,by rw [List.take_of_length_le (aA _),List.drop_of_length_le (aA _)]; exact ho2,(Below.refl B W).grown hg hB (fun j hj=>(ho.lt j hj).1)⟩);obtain⟨sx,hs,_⟩:=SV (Row.dx ho) l.length (aA _);obtain⟨ao,ac,rfl⟩:=(Row.dx ho).len;clear ho ho2 hg;generalize hn:l.length=n at *;clear hn;go_enter aF,aC;go_wp2_with (first | (at_builtin; refine wpList_append_run rfl _ _ 34 rfl rfl rfl hr ?_) | fail);go_ret;exact Q.out
theorem Hu (w:aB) (g b k la lb cb:Nat) (cur cs:Array aJ) (hb:cZ w b cs 91) (hg:cZ w g cur 91) (hne:b≠g) (h0:0<cur.size):(callFunc 198 #[D (O ⟨b,0,K⟩) la 1,D (O ⟨g,k,K⟩) lb cb]).run J w=.ok (.value (.bool ay)) w:=by
 rw [run_callFunc_extern Tryz.func198 (by kernel_rfl) (by kernel_rfl) (by kernel_rfl) (e:=Extern.SlicesOverlaps.overlaps #[34,34] #[4]) (by kernel_rfl),
  Lib.run_overlaps_apart w 34 4 91 Tryz.underlying34 5 Tryz.sizeOf91 ⟨b,0,K⟩ ⟨g,k,K⟩ la 1 lb cb hne 91 91 cs.size cur.size hb.shape hg.shape (by omega) (hb.fr 0) (hb.fr _)]
 rfl
theorem uT (B g n cap:Nat) (cur:Array aJ) (l:List C5) (k:Nat) (c:C5) (b:Nat) (W:aB) (hn:n=l.length) (hBg:B<=g) (hg:cZ W g cur 91) (hcm:cap<=maxLen) (hsz:cur.size=cap * 5) (ht:cur.toList.take (n * 5)=flat EC l) (hx:cZ W b (cells5 c).toArray 91) (hne:b≠g) (hk:k<n) (hroom:n+1<=cap) (hl:n<=100) :
  aI J 191 #[D (O ⟨g,0,K⟩) n cap,ah aj k,D (O ⟨b,0,K⟩) 1 1] W (yx B l k c W):=by
 obtain⟨R1,R2,r1,r2,ow⟩:=jZ (E:=EC) (l:=l) (k:=k) (cap:=cap) (cur:=cur) (cs:=(cells5 c).toArray) (c:=c) qC (by omega) (by omega) hsz (by rw [<- hn]; exact ht) g b hne;have hov:=fun lb cb=>Hu W g b ((k+1) * 5) 1 lb cb cur (cells5 c).toArray hx hg hne (by omega);have s0:=eH (E:=EC) qC g k n cap (by omega) (by omega);have s1:=fZ (E:=EC) qC ⟨g,0,K⟩ (n+1) n cap (by omega);have s2:=eH (E:=EC) qC g (k+1) (n+1) cap (by omega) (by omega);have s3:=eH (E:=EC) qC g k (n+1) cap (by omega) (by omega);have q1:=r1 W.drew 3 (n+1-(k+1)) (cap-(k+1)) (n+1-k) (cap-k) hg (by omega);have q2:=r2 (W.drew.setRow g R1) 3 (n+1-k) (cap-k) (cZ.set (show cZ W.drew g cur 91 from hg) R1) (cZ.other (show cZ W.drew b _ 91 from hx) hne R1) rfl (by omega);have Q:=V (show yx B l k c W (au (D (O ⟨g,0,K⟩) (n+1) cap)) ((W.drew.setRow g R1).setRow g R2) from ⟨_,rfl,by rw [hn]; exact ow _ B hBg hcm (cZ.set (cZ.set (show cZ W.drew g cur 91 from hg) R1) R2),below_setRow (below_setRow (Below.refl B W).drew hBg _) hBg _⟩);clear r1 r2 ow hg ht hx hsz hBg hcm;change ∀ w,(U 34 (D (O ⟨g,0,K⟩) n cap) (O (ah aj k)) K K).run J w=.ok (D (O ⟨g,k * 5,K⟩) (n-k) (cap-k)) w at s0;change ∀ w,(U 34 (D (O ⟨g,0,K⟩) n cap) K (O (ah aj ((n:Int)+1))) K).run J w=.ok (D (O ⟨g,0,K⟩) (n+1) cap) w at s1;change ∀ w,(U 34 (D (O ⟨g,0,K⟩) (n+1) cap) (O (ah aj ((k:Int)+1))) K K).run J w=.ok (D (O ⟨g,(k+1) * 5,K⟩) (n+1-(k+1)) (cap-(k+1))) w at s2;change ∀ w,(U 34 (D (O ⟨g,0,K⟩) (n+1) cap) (O (ah aj k)) K K).run J w=.ok (D (O ⟨g,k * 5,K⟩) (n+1-k) (cap-k)) w at s3;have e1:((k:Int) == (n:Int))=ay:=by rw [beq_eq_false_iff_ne]; omega
 have e2:decide ((cap:Int)<(n:Int)+1)=ay:=by simp; omega
 change (ak #[34,34] 3 #[D (O ⟨g,(k+1) * 5,K⟩) (n+1-(k+1)) (cap-(k+1)),D (O ⟨g,k * 5,K⟩) (n+1-k) (cap-k)]).run J W.drew=.ok (ah aj ((l.length-k:Nat):Int)) (W.drew.setRow g R1) at q1;change (ak #[34,34] 3 #[D (O ⟨g,k * 5,K⟩) (n+1-k) (cap-k),D (O ⟨b,0,K⟩) 1 1]).run J (W.drew.setRow g R1)=.ok (ah aj 1) ((W.drew.setRow g R1).setRow g R2) at q2;clear hn;go_enter aF,aC;go_wp2_with (first | (simp only [hov]) | fail);clear hov s0 s1 s2 s3;have hw1:IntKind.i64.wrap ((k:Int)+1)=(k:Int)+1:=by rw [aG]; omega
 have hb1:(0:Int)<=(k:Int)+1:=by omega
 have hb0:(k:Int)+1<=(n:Int)+1:=by omega
 have htn:((k:Int)+1).toNat=k+1:=by omega
 have hb2:¬ (cap=k+1):=by omega
 have hb3:(k:Int)<=(n:Int)+1:=by omega
 have hb4:¬ (cap=k):=by omega
 have h81:n+1-(k+1)=n-k:=by omega
 rw [h81] at q1;clear h81
 go_region_law (refine eZ rfl (.tmp 73) (.tmp 76) 34 rfl (v:=D (O ⟨g,(k+1) * 5,K⟩) (n-k) (cap-(k+1))) (xv:=D (O ⟨g,k * 5,K⟩) (n+1-k) (cap-k)) (by simp [Act.eval,Act.put]) (by simp [Act.eval,Act.put]) q1 ?_)
 all_goals simp only [Exit.then]
 all_goals apply_assumption
 clear q1 hw1 hb1 hb0 htn hb2 hb3 hb4;have s3:=eH (E:=EC) qC g k (n+1) cap (by omega) (by omega);change ∀ w,(U 34 (D (O ⟨g,0,K⟩) (n+1) cap) (O (ah aj k)) K K).run J w=.ok (D (O ⟨g,k * 5,K⟩) (n+1-k) (cap-k)) w at s3;go_wp2_with (first | (at_builtin; refine wpList_copy_run rfl _ _ 34 rfl rfl rfl q2 ?_) | fail);go_ret;exact Q.out
theorem wD (B g n cap:Nat) (cur:Array aJ) (l:List C5) (k:Nat) (c:C5) (b:Nat) (W:aB) (hn:n=l.length) (hg:cZ W g cur 91) (hcm:cap<=maxLen) (hnc:n<=cap) (ht:cur.toList.take (n * 5)=flat EC l) (hx:cZ W b (cells5 c).toArray 91) (hk:k<n) (hroom:cap<n+1) (hl:n<=100) (hB:B<=W.heap.size) :
  aI J 191 #[D (O ⟨g,0,K⟩) n cap,ah aj k,D (O ⟨b,0,K⟩) 1 1] W (yx B l k c W):=by
 have hgw:=hg.lt;have hbw:=hx.lt;obtain⟨G,R1,R2,R3,hG1,hG2,r1,r2,r3,ow⟩:=kZ (E:=EC) (l:=l) (k:=k) (cap:=cap) (cur:=cur) (cs:=(cells5 c).toArray) (c:=c) qC 3 Tryz.underlying3 (by omega) (by omega) (by omega) (by omega) (by rw [<- hn]; exact ht) W g b hg hbw;unfold maxLen at hcm hG2;have s0:=eH (E:=EC) qC g k n cap (by omega) (by omega);have s1:=fZ (E:=EC) qC ⟨g,0,K⟩ k n cap (by omega);have s2:=eH (E:=EC) qC W.heap.size k (n+1) G (by omega) (by omega);have s3:=eH (E:=EC) qC W.heap.size (k+1) (n+1) G (by omega) (by omega);have a1:=r1 34;have n1:=dG W.drew R1 91;have bl:W.drew.heap.size=W.heap.size:=rfl;rw [bl] at n1;have g1:cZ (W.drew.alloc (Z R1 91)) g cur 91:=cZ.more (show cZ W.drew g cur 91 from hg) _;have x1:cZ (W.drew.alloc (Z R1 91)) b (cells5 c).toArray 91:=cZ.more (show cZ W.drew b _ 91 from hx) _;have q2:=r2 (W.drew.alloc (Z R1 91)) 3 (n+1-k) (G-k) n1 x1 rfl (by omega);have q3:=r3 ((W.drew.alloc (Z R1 91)).setRow W.heap.size R2).drew 3 (n+1-(k+1)) (G-(k+1)) (n-k) (cap-k) (cZ.set n1 R2) (cZ.other g1 (by omega) R2) (by omega);have Q:=V (show yx B l k c W (au (D (O ⟨W.heap.size,0,K⟩) (n+1) G)) (((W.drew.alloc (Z R1 91)).setRow W.heap.size R2).drew.setRow W.heap.size R3) from ⟨_,rfl,by rw [hn]; exact ow _ B hB (cZ.set (cZ.set n1 R2) R3),below_setRow (below_setRow ((Below.refl B W).drew.alloc hB _) hB _).drew hB _⟩);have l1:l.length+1=n+1:=by rw [hn]
 rw [l1,<- hn] at a1;clear r1 r2 r3 ow hg ht hx g1 x1 n1 bl l1;change ∀ w,(U 34 (D (O ⟨g,0,K⟩) n cap) (O (ah aj k)) K K).run J w=.ok (D (O ⟨g,k * 5,K⟩) (n-k) (cap-k)) w at s0;change ∀ w,(U 34 (D (O ⟨g,0,K⟩) n cap) K (O (ah aj k)) K).run J w=.ok (D (O ⟨g,0,K⟩) k cap) w at s1;change ∀ w,(U 34 (D (O ⟨W.heap.size,0,K⟩) (n+1) G) (O (ah aj k)) K K).run J w=.ok (D (O ⟨W.heap.size,k * 5,K⟩) (n+1-k) (G-k)) w at s2;change ∀ w,(U 34 (D (O ⟨W.heap.size,0,K⟩) (n+1) G) (O (ah aj ((k:Int)+1))) K K).run J w=.ok (D (O ⟨W.heap.size,(k+1) * 5,K⟩) (n+1-(k+1)) (G-(k+1))) w at s3;change (Builtin.append_ #[34,3] 34 #[D (O ⟨g,0,K⟩) k cap,ah aj ((n:Int)+1-k)]).run J W=.ok (D (O ⟨W.heap.size,0,K⟩) (n+1) G) (W.drew.alloc (Z R1 91)) at a1;change (ak #[34,34] 3 #[D (O ⟨W.heap.size,k * 5,K⟩) (n+1-k) (G-k),D (O ⟨b,0,K⟩) 1 1]).run J (W.drew.alloc (Z R1 91))=.ok (ah aj 1) ((W.drew.alloc (Z R1 91)).setRow W.heap.size R2) at q2;change (ak #[34,34] 3 #[D (O ⟨W.heap.size,(k+1) * 5,K⟩) (n+1-(k+1)) (G-(k+1)),D (O ⟨g,k * 5,K⟩) (n-k) (cap-k)]).run J ((W.drew.alloc (Z R1 91)).setRow W.heap.size R2).drew=.ok (ah aj ((l.length-k:Nat):Int)) (((W.drew.alloc (Z R1 91)).setRow W.heap.size R2).drew.setRow W.heap.size R3) at q3;have e1:((k:Int) == (n:Int))=ay:=by rw [beq_eq_false_iff_ne]; omega
 have e2:decide ((cap:Int)<(n:Int)+1)=aK:=by simp; omega
 have hGn:n+1<=G:=by omega
 clear hn;generalize W.heap.size=N at *;generalize W.drew.alloc (Z R1 91)=W1 at *;generalize W1.setRow N R2=W2 at *;go_enter aF,aC;go_wp2_with (first | (at_builtin; refine fD rfl _ _ 34 3 rfl rfl rfl a1 ?_) | (at_builtin; refine wpList_copy_run rfl _ _ 34 rfl rfl rfl q2 ?_) | fail);clear a1 q2 s0 s1 s2 s3;have hw1:IntKind.i64.wrap ((k:Int)+1)=(k:Int)+1:=by rw [aG]; omega
 have hb1:(0:Int)<=(k:Int)+1:=by omega
 have hb0:(k:Int)+1<=(n:Int)+1:=by omega
 have htn:((k:Int)+1).toNat=k+1:=by omega
 have hb2:¬ (G=k+1):=by omega
 have hb3:(k:Int)<=(n:Int):=by omega
 have hb4:¬ (cap=k):=by omega
 have h81:n+1-(k+1)=n-k:=by omega
 rw [h81] at q3;clear h81
 go_region_law (refine eZ rfl (.tmp 50) (.tmp 53) 34 rfl (v:=D (O ⟨N,(k+1) * 5,K⟩) (n-k) (G-(k+1))) (xv:=D (O ⟨g,k * 5,K⟩) (n-k) (cap-k)) (by simp [Act.eval,Act.put]) (by simp [Act.eval,Act.put]) q3 ?_)
 all_goals simp only [Exit.then]
 all_goals apply_assumption
 go_wp2;go_ret;exact Q.out
theorem yB (B:Nat) (v:aJ) (l:List C5) (k:Nat) (c:C5) (b:Nat) (W:aB) (ho:fV W B v l) (hx:cZ W b (cells5 c).toArray 91) (hne:v.ownBlock≠O b) (hk:k<=l.length) (hl:l.length<=100) (hB:B<=W.heap.size) :
  aI J 191 #[v,ah aj k,D (O ⟨b,0,K⟩) 1 1] W (yx B l k c W):=by
 rcases aD k l.length with h|h
 ·rcases dY ho with⟨_,h2⟩|⟨g,cap,cur,rfl,h1,h2,h3,h4,h5,h6⟩
  ·rw [h2] at h; simp at h
  ·rcases aD cap (l.length+1) with h7|h7
   ·exact wD B g _ cap cur l k c b W rfl h2 h4 h3 h6 hx h h7 hl hB
   ·exact uT B g _ cap cur l k c b W rfl h1 h2 h4 h5 h6 hx (fun e=>hne (by simp [Value.ownBlock,e])) h h7 hl
 ·obtain rfl:k=l.length:=by omega
  exact yA B v l c b W ho hx hl hB
end Pr
end Go.Proofs.YtghlpefopidlaaaGreat
