/-
  put of package adver. Conditions as told.
-/
import Derived.Test.YtkcfgbddlpomgaaBQ024
import Derived.Test.YtkcfgbddlpomgaaBQ025
import Derived.Test.YtkcfgbddlpomgaaBQ026
set_option maxRecDepth 100000
set_option maxHeartbeats 64000000
open Go.Ending renaming returned->U
open Go.IntKind renaming i64->O
open Go.Lib renaming hid->D
open Go.Obj renaming cells->V
open Go.Value renaming int->L,slice->Z
open _root_.Nat renaming lt_of_lt_of_le->J,le_trans->K
namespace Go.Proofs.Ytkcfgbddlpomgaa.Av
open Go.RowKit Go.Sort Rw Ytkcfgbddlpomgaa.Nm Pr Bk
theorem uW (l:List dI) (y:dI):fG jv l y<=l.length:=by
 rw [gU];exact K (jc _ _) (by simp)
theorem x9 (B:Nat) (v:Sl) (l:List dI) (x:dI) (w:World) (ho:Own EJ w B (dz v) l) (hr:iR jv l) (hl:l.length<=900) (hB:B<=w.heap.size) :
  Calls Try.prog 13 #[dz v,lq x,.func (.func 14) #[] #[]] w fun e w'=>(∃ v':Sl,e=U (dz v')/\Own EJ w' B (dz v') (fu l (fG jv l (jv x)) x))/\Below B w w'/\(∀ j,j<w.heap.size->some j≠(dz v).ownBlock->w'.heap[j]?=w.heap[j]?):=by
 have h0:=fK w (V #[L O x.1,L O x.2] 23);have X:=dB w #[L O x.1,L O x.2] 23;have C:=D (zU (dz v) l x _ ((Row.dw ho).on h0) hr hl);obtain⟨ks,hks⟩:∃ k,k=fG jv l (jv x):=⟨_,rfl⟩;have KL:ks<=l.length:=by rw [hks]; exact uW _ _
 rw [<- hks] at C;rw [<- hks];generalize iB jv l (jv x)=th at *;have OW:=D (Bk.dx ho h0);have HV:=D (show (dz v).ownBlock≠none->∃ g,(dz v).ownBlock=some g/\g<w.heap.size from fun hne=>by
  cases hb:(dz v).ownBlock with
  | none=>exact absurd hb hne
  | some g=>exact⟨g,rfl,(ho.lt g hb).2⟩)
 have B0:=D ((Below.refl B w).alloc hB (V #[L O x.1,L O x.2] 23));have GJ:=D h0;have KK:=D KL;have LL:=D hl;have BB:=D hB;clear h0 ho hr hl hB hks KL;obtain⟨c1,c2⟩:=x;obtain⟨vo,vn,vc⟩:=v;simp only at C X;obtain⟨x0,x1⟩:=X.cs2;have XX:=D X;clear X;go_enter Try.func13,Try.ntmps13;go_wp2_with fail;have W1:=D (show w.heap.size<=(w.alloc (V #[L O c1,L O c2] 23)).heap.size by simp);generalize w.alloc (V #[L O c1,L O c2] 23)=W at *;refine C.out.mono ?_;rintro e w1 ⟨rfl,hb⟩;have Y:=XX.out.on hb;obtain⟨y0,y1⟩:=Y.cs2;have O1:=D (Bk.dx OW.out hb);have B1:=D (B0.out.trans (hb.mono (K BB.out W1.out)));have BW:=D (fun j (hj:j<w.heap.size)=>(hb.block j (J hj W1.out)).trans (GJ.out.block j hj));have S1:=D (K W1.out hb.size);clear C Y hb x0 x1;go_wp2_with fail;have hl:=LL.out;have NB:=fK w1 (V #[L O c1,L O c2] 23);refine (qm B _ l ks (c1,c2) w1.heap.size _ (Bk.dx O1.out NB) (dB w1 #[L O c1,L O c2] 23) ?_ KK.out (by omega) (K (K BB.out S1.out) NB.size)).mono ?_
 ·intro he;obtain⟨g,hg,hlt⟩:=HV.out (by rw [he]; simp);rw [he] at hg;have:=Option.some.inj hg;have:=S1.out;omega
 rintro e w2 ⟨v',rfl,ho,hb,hoth⟩;obtain⟨a1,a2,hv⟩:=(Row.dw ho).len;have Q:=D (show (∃ v'':Sl,U v'=U (dz v'')/\Own EJ w2 B (dz v'') (fu l ks (c1,c2)))/\Below B w w2/\(∀ j,j<w.heap.size->some j≠(dz (vo,vn,vc)).ownBlock->w2.heap[j]?=w.heap[j]?) from ⟨⟨(a1,_,a2),by rw [hv],by subst hv; simpa [fu] using ho⟩,(B1.out.trans (NB.mono (K BB.out S1.out))).trans hb,fun j hj hne=>(hoth j (J (J hj S1.out) NB.size) hne).trans ((NB.block j (J hj S1.out)).trans (BW.out j hj))⟩);clear ho hb hv hl NB;go_wp2;go_ret;exact Q.out
theorem uX (l:List gD) (y:dI):fG iO l y<=l.length:=by
 rw [gU];exact K (jc _ _) (by simp)
theorem yg (B:Nat) (v:Sl) (l:List gD) (x:gD) (w:World) (ho:Own ED w B (dz v) l) (hr:iR iO l) (hl:l.length<=900) (hB:B<=w.heap.size) :
  Calls Try.prog 10 #[dz v,gY x,.func (.func 12) #[] #[]] w fun e w'=>(∃ v':Sl,e=U (dz v')/\Own ED w' B (dz v') (fu l (fG iO l (iO x)) x))/\Below B w w'/\(∀ j,j<w.heap.size->some j≠(dz v).ownBlock->w'.heap[j]?=w.heap[j]?):=by
 have h0:=fK w (V #[L O x.1,L O x.2.1,dz x.2.2.1,L O x.2.2.2] 36);have X:=dB w #[L O x.1,L O x.2.1,dz x.2.2.1,L O x.2.2.2] 36;have C:=D (zV (dz v) l x _ ((Row.dw ho).on h0) hr hl);obtain⟨ks,hks⟩:∃ k,k=fG iO l (iO x):=⟨_,rfl⟩;have KL:ks<=l.length:=by rw [hks]; exact uX _ _
 have e1:iO x=(x.1,x.2.1):=rfl;rw [<- e1] at C;rw [<- hks] at C;rw [<- hks];generalize iB iO l (iO x)=th at *;have OW:=D (Bk.dx ho h0);have HV:=D (show (dz v).ownBlock≠none->∃ g,(dz v).ownBlock=some g/\g<w.heap.size from fun hne=>by
  cases hb:(dz v).ownBlock with
  | none=>exact absurd hb hne
  | some g=>exact⟨g,rfl,(ho.lt g hb).2⟩)
 have B0:=D ((Below.refl B w).alloc hB (V #[L O x.1,L O x.2.1,dz x.2.2.1,L O x.2.2.2] 36));have GJ:=D h0;have KK:=D KL;have LL:=D hl;have BB:=D hB;clear h0 ho hr hl hB hks KL;obtain⟨c1,c2,⟨c3,c4,c5⟩,c6⟩:=x;obtain⟨vo,vn,vc⟩:=v;simp only at C X;obtain⟨x0,x1,x2,x3⟩:=X.wG;have XX:=D X;clear X;go_enter Try.func10,Try.ntmps10;go_wp2_with fail;have W1:=D (show w.heap.size<=(w.alloc (V #[L O c1,L O c2,Z c3 c4 c5,L O c6] 36)).heap.size by simp);generalize w.alloc (V #[L O c1,L O c2,Z c3 c4 c5,L O c6] 36)=W at *;refine C.out.mono ?_;rintro e w1 ⟨rfl,hb⟩;have Y:=XX.out.on hb;obtain⟨y0,y1,y2,y3⟩:=Y.wG;have O1:=D (Bk.dx OW.out hb);have B1:=D (B0.out.trans (hb.mono (K BB.out W1.out)));have BW:=D (fun j (hj:j<w.heap.size)=>(hb.block j (J hj W1.out)).trans (GJ.out.block j hj));have S1:=D (K W1.out hb.size);clear C Y hb x0 x1 x2 x3;go_wp2_with fail;have hl:=LL.out;have NB:=fK w1 (V #[L O c1,L O c2,Z c3 c4 c5,L O c6] 36);refine (qp B _ l ks (c1,c2,(c3,c4,c5),c6) w1.heap.size _ (Bk.dx O1.out NB) (dB w1 #[L O c1,L O c2,Z c3 c4 c5,L O c6] 36) ?_ KK.out (by omega) (K (K BB.out S1.out) NB.size)).mono ?_
 ·intro he;obtain⟨g,hg,hlt⟩:=HV.out (by rw [he]; simp);rw [he] at hg;have:=Option.some.inj hg;have:=S1.out;omega
 rintro e w2 ⟨v',rfl,ho,hb,hoth⟩;obtain⟨a1,a2,hv⟩:=(Row.dw ho).len;have Q:=D (show (∃ v'':Sl,U v'=U (dz v'')/\Own ED w2 B (dz v'') (fu l ks (c1,c2,(c3,c4,c5),c6)))/\Below B w w2/\(∀ j,j<w.heap.size->some j≠(dz (vo,vn,vc)).ownBlock->w2.heap[j]?=w.heap[j]?) from ⟨⟨(a1,_,a2),by rw [hv],by subst hv; simpa [fu] using ho⟩,(B1.out.trans (NB.mono (K BB.out S1.out))).trans hb,fun j hj hne=>(hoth j (J (J hj S1.out) NB.size) hne).trans ((NB.block j (J hj S1.out)).trans (BW.out j hj))⟩);clear ho hb hv hl NB;go_wp2;go_ret;exact Q.out
end Go.Proofs.Ytkcfgbddlpomgaa.Av
