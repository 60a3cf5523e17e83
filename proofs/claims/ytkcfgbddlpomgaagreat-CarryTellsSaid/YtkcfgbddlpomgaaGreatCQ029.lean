/-
  put of package adver. Conditions as told.
-/
import Derived.Test.YtkcfgbddlpomgaaGreatCQ026
import Derived.Test.YtkcfgbddlpomgaaGreatCQ027
import Derived.Test.YtkcfgbddlpomgaaGreatCQ010
import Derived.Test.YtkcfgbddlpomgaaGreatCQ028
set_option maxRecDepth 100000
set_option maxHeartbeats 64000000
open Go.Ending renaming returned->U
open Go.IntKind renaming i64->O
open Go.Lib renaming hid->D
open Go.Obj renaming cells->V
open Go.Value renaming int->L,slice->Z
open _root_.Nat renaming lt_of_lt_of_le->J,le_trans->K
namespace Go.Proofs.YtkcfgbddlpomgaaGreat.Av
open Go.RowKit Go.Sort Rw YtkcfgbddlpomgaaGreat.Nm Pr Bk
theorem NW (l:List eF) (y:eF):fZ sZ l y<=l.length:=by
 rw [iT];exact K (kV _ _) (by simp)
theorem Si (B:Nat) (v:Sl) (l:List eF) (x:eF) (w:World) (ho:Own EJ w B (dK v) l) (hr:j5 sZ l) (hl:l.length<=900) (hB:B<=w.heap.size) :
  Calls Tryz.prog 72 #[dK v,lZ x,.func (.func 73) #[] #[]] w fun e w'=>(∃ v':Sl,e=U (dK v')/\Own EJ w' B (dK v') (fP l (fZ sZ l (sZ x)) x))/\Below B w w'/\(∀ j,j<w.heap.size->some j≠(dK v).ownBlock->w'.heap[j]?=w.heap[j]?):=by
 have h0:=fT w (V #[L O x.1,L O x.2] 38);have X:=dI w #[L O x.1,L O x.2] 38;have C:=D (Wd (dK v) l x _ ((Row.dn ho).on h0) hr hl);obtain⟨ks,hks⟩:∃ k,k=fZ sZ l (sZ x):=⟨_,rfl⟩;have KL:ks<=l.length:=by rw [hks]; exact NW _ _
 rw [<- hks] at C;rw [<- hks];generalize lD sZ l (sZ x)=th at *;have OW:=D (Bk.dh ho h0);have HV:=D (show (dK v).ownBlock≠none->∃ g,(dK v).ownBlock=some g/\g<w.heap.size from fun hne=>by
  cases hb:(dK v).ownBlock with
  | none=>exact absurd hb hne
  | some g=>exact⟨g,rfl,(ho.lt g hb).2⟩)
 have B0:=D ((Below.refl B w).alloc hB (V #[L O x.1,L O x.2] 38));have BN0:=D h0;have KK:=D KL;have LL:=D hl;have BB:=D hB;clear h0 ho hr hl hB hks KL;obtain⟨c1,c2⟩:=x;obtain⟨vo,vn,vc⟩:=v;simp only at C X;obtain⟨x0,x1⟩:=X.cs2;have XX:=D X;clear X;go_enter Tryz.func72,Tryz.ntmps72;go_wp2_with fail;have W1:=D (show w.heap.size<=(w.alloc (V #[L O c1,L O c2] 38)).heap.size by simp);generalize w.alloc (V #[L O c1,L O c2] 38)=W at *;refine C.out.mono ?_;rintro e w1 ⟨rfl,hb⟩;have Y:=XX.out.on hb;obtain⟨y0,y1⟩:=Y.cs2;have O1:=D (Bk.dh OW.out hb);have B1:=D (B0.out.trans (hb.mono (K BB.out W1.out)));have BW:=D (fun j (hj:j<w.heap.size)=>(hb.block j (J hj W1.out)).trans (BN0.out.block j hj));have S1:=D (K W1.out hb.size);clear C Y hb x0 x1;go_wp2_with fail;have hl:=LL.out;have NB:=fT w1 (V #[L O c1,L O c2] 38);refine (FT B _ l ks (c1,c2) w1.heap.size _ (Bk.dh O1.out NB) (dI w1 #[L O c1,L O c2] 38) ?_ KK.out (by omega) (K (K BB.out S1.out) NB.size)).mono ?_
 ·intro he;obtain⟨g,hg,hlt⟩:=HV.out (by rw [he]; simp);rw [he] at hg;have:=Option.some.inj hg;have:=S1.out;omega
 rintro e w2 ⟨v',rfl,ho,hb,hoth⟩;obtain⟨a1,a2,hv⟩:=(Row.dn ho).len;have Q:=D (show (∃ v'':Sl,U v'=U (dK v'')/\Own EJ w2 B (dK v'') (fP l ks (c1,c2)))/\Below B w w2/\(∀ j,j<w.heap.size->some j≠(dK (vo,vn,vc)).ownBlock->w2.heap[j]?=w.heap[j]?) from ⟨⟨(a1,_,a2),by rw [hv],by subst hv; simpa [fP] using ho⟩,(B1.out.trans (NB.mono (K BB.out S1.out))).trans hb,fun j hj hne=>(hoth j (J (J hj S1.out) NB.size) hne).trans ((NB.block j (J hj S1.out)).trans (BW.out j hj))⟩);clear ho hb hv hl NB;go_wp2;go_ret;exact Q.out
theorem NY (l:List jv) (y:eF):fZ qN l y<=l.length:=by
 rw [iT];exact K (kV _ _) (by simp)
theorem Sj (B:Nat) (v:Sl) (l:List jv) (x:jv) (w:World) (ho:Own ED w B (dK v) l) (hr:j5 qN l) (hl:l.length<=900) (hB:B<=w.heap.size) :
  Calls Tryz.prog 70 #[dK v,mD x,.func (.func 71) #[] #[]] w fun e w'=>(∃ v':Sl,e=U (dK v')/\Own ED w' B (dK v') (fP l (fZ qN l (qN x)) x))/\Below B w w'/\(∀ j,j<w.heap.size->some j≠(dK v).ownBlock->w'.heap[j]?=w.heap[j]?):=by
 have h0:=fT w (V #[L O x.1,L O x.2.1,dK x.2.2.1,L O x.2.2.2] 53);have X:=dI w #[L O x.1,L O x.2.1,dK x.2.2.1,L O x.2.2.2] 53;have C:=D (Wh (dK v) l x _ ((Row.dn ho).on h0) hr hl);obtain⟨ks,hks⟩:∃ k,k=fZ qN l (qN x):=⟨_,rfl⟩;have KL:ks<=l.length:=by rw [hks]; exact NY _ _
 have e1:qN x=(x.1,x.2.1):=rfl;rw [<- e1] at C;rw [<- hks] at C;rw [<- hks];generalize lD qN l (qN x)=th at *;have OW:=D (Bk.dh ho h0);have HV:=D (show (dK v).ownBlock≠none->∃ g,(dK v).ownBlock=some g/\g<w.heap.size from fun hne=>by
  cases hb:(dK v).ownBlock with
  | none=>exact absurd hb hne
  | some g=>exact⟨g,rfl,(ho.lt g hb).2⟩)
 have B0:=D ((Below.refl B w).alloc hB (V #[L O x.1,L O x.2.1,dK x.2.2.1,L O x.2.2.2] 53));have BN0:=D h0;have KK:=D KL;have LL:=D hl;have BB:=D hB;clear h0 ho hr hl hB hks KL;obtain⟨c1,c2,⟨c3,c4,c5⟩,c6⟩:=x;obtain⟨vo,vn,vc⟩:=v;simp only at C X;obtain⟨x0,x1,x2,x3⟩:=X.IQ;have XX:=D X;clear X;go_enter Tryz.func70,Tryz.ntmps70;go_wp2_with fail;have W1:=D (show w.heap.size<=(w.alloc (V #[L O c1,L O c2,Z c3 c4 c5,L O c6] 53)).heap.size by simp);generalize w.alloc (V #[L O c1,L O c2,Z c3 c4 c5,L O c6] 53)=W at *;refine C.out.mono ?_;rintro e w1 ⟨rfl,hb⟩;have Y:=XX.out.on hb;obtain⟨y0,y1,y2,y3⟩:=Y.IQ;have O1:=D (Bk.dh OW.out hb);have B1:=D (B0.out.trans (hb.mono (K BB.out W1.out)));have BW:=D (fun j (hj:j<w.heap.size)=>(hb.block j (J hj W1.out)).trans (BN0.out.block j hj));have S1:=D (K W1.out hb.size);clear C Y hb x0 x1 x2 x3;go_wp2_with fail;have hl:=LL.out;have NB:=fT w1 (V #[L O c1,L O c2,Z c3 c4 c5,L O c6] 53);refine (GQ B _ l ks (c1,c2,(c3,c4,c5),c6) w1.heap.size _ (Bk.dh O1.out NB) (dI w1 #[L O c1,L O c2,Z c3 c4 c5,L O c6] 53) ?_ KK.out (by omega) (K (K BB.out S1.out) NB.size)).mono ?_
 ·intro he;obtain⟨g,hg,hlt⟩:=HV.out (by rw [he]; simp);rw [he] at hg;have:=Option.some.inj hg;have:=S1.out;omega
 rintro e w2 ⟨v',rfl,ho,hb,hoth⟩;obtain⟨a1,a2,hv⟩:=(Row.dn ho).len;have Q:=D (show (∃ v'':Sl,U v'=U (dK v'')/\Own ED w2 B (dK v'') (fP l ks (c1,c2,(c3,c4,c5),c6)))/\Below B w w2/\(∀ j,j<w.heap.size->some j≠(dK (vo,vn,vc)).ownBlock->w2.heap[j]?=w.heap[j]?) from ⟨⟨(a1,_,a2),by rw [hv],by subst hv; simpa [fP] using ho⟩,(B1.out.trans (NB.mono (K BB.out S1.out))).trans hb,fun j hj hne=>(hoth j (J (J hj S1.out) NB.size) hne).trans ((NB.block j (J hj S1.out)).trans (BW.out j hj))⟩);clear ho hb hv hl NB;go_wp2;go_ret;exact Q.out
end Go.Proofs.YtkcfgbddlpomgaaGreat.Av
