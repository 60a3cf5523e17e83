/-
  put of package adver. Conditions as told.
-/
import Derived.Test.YtkcfgbddlpomgaaGreatOQ021
import Derived.Test.YtkcfgbddlpomgaaGreatOQ022
import Derived.Test.YtkcfgbddlpomgaaGreatOQ013
import Derived.Test.YtkcfgbddlpomgaaGreatOQ015
set_option maxRecDepth 100000
set_option maxHeartbeats 64000000
open _root_.Go renaming World->V,TypeId->ah,Value->ak
open Go.Ending renaming returned->U
open Go.IntKind renaming i64->O
open Go.Lib renaming hid->D
open Go.Obj renaming cells->Z
open Go.Value renaming int->L,slice->aj
open _root_.Nat renaming lt_of_lt_of_le->J,le_trans->K
namespace Go.Proofs.YtkcfgbddlpomgaaGreat.Av
open Go.RowKit Go.Sort Rw YtkcfgbddlpomgaaGreat.Nm Pr Bk
theorem Qu (l:List eT) (y:eT):gN uX l y<=l.length:=by
 rw [jm];exact K (mK _ _) (by simp)
theorem U6 (B:Nat) (v:Sl) (l:List eT) (x:eT) (w:V) (ho:Own EJ w B (dU v) l) (hr:kW uX l) (hl:l.length<=900) (hB:B<=w.heap.size) :
  Calls Tryz.prog 72 #[dU v,mY x,.func (.func 73) #[] #[]] w fun e w'=>(∃ v':Sl,e=U (dU v')/\Own EJ w' B (dU v') (fV l (gN uX l (uX x)) x))/\Below B w w'/\(∀ j,j<w.heap.size->some j≠(dU v).ownBlock->w'.heap[j]?=w.heap[j]?):=by
 have h0:=fI w (Z #[L O x.1,L O x.2] 38);have X:=dO w #[L O x.1,L O x.2] 38;have C:=D (Y7 (dU v) l x _ ((Row.dH ho).on h0) hr hl);obtain⟨ks,hks⟩:∃ k,k=gN uX l (uX x):=⟨_,rfl⟩;have KL:ks<=l.length:=by rw [hks]; exact Qu _ _
 rw [<- hks] at C;rw [<- hks];generalize mU uX l (uX x)=th at *;have OW:=D (Bk.dG ho h0);have HV:=D (show (dU v).ownBlock≠none->∃ g,(dU v).ownBlock=some g/\g<w.heap.size from fun hne=>by
  cases hb:(dU v).ownBlock with
  | none=>exact absurd hb hne
  | some g=>exact⟨g,rfl,(ho.lt g hb).2⟩)
 have B0:=D ((Below.refl B w).alloc hB (Z #[L O x.1,L O x.2] 38));have BN0:=D h0;have KK:=D KL;have LL:=D hl;have BB:=D hB;clear h0 ho hr hl hB hks KL;obtain⟨c1,c2⟩:=x;obtain⟨vo,vn,vc⟩:=v;simp only at C X;obtain⟨x0,x1⟩:=X.cs2;have XX:=D X;clear X;go_enter Tryz.func72,Tryz.ntmps72;go_wp2_with fail;have W1:=D (show w.heap.size<=(w.alloc (Z #[L O c1,L O c2] 38)).heap.size by simp);generalize w.alloc (Z #[L O c1,L O c2] 38)=W at *;refine C.out.mono ?_;rintro e w1 ⟨rfl,hb⟩;have Y:=XX.out.on hb;obtain⟨y0,y1⟩:=Y.cs2;have O1:=D (Bk.dG OW.out hb);have B1:=D (B0.out.trans (hb.mono (K BB.out W1.out)));have BW:=D (fun j (hj:j<w.heap.size)=>(hb.block j (J hj W1.out)).trans (BN0.out.block j hj));have S1:=D (K W1.out hb.size);clear C Y hb x0 x1;go_wp2_with fail;have hl:=LL.out;have NB:=fI w1 (Z #[L O c1,L O c2] 38);refine (Iq B _ l ks (c1,c2) w1.heap.size _ (Bk.dG O1.out NB) (dO w1 #[L O c1,L O c2] 38) ?_ KK.out (by omega) (K (K BB.out S1.out) NB.size)).mono ?_
 ·intro he;obtain⟨g,hg,hlt⟩:=HV.out (by rw [he]; simp);rw [he] at hg;have:=Option.some.inj hg;have:=S1.out;omega
 rintro e w2 ⟨v',rfl,ho,hb,hoth⟩;obtain⟨a1,a2,hv⟩:=(Row.dH ho).len;have Q:=D (show (∃ v'':Sl,U v'=U (dU v'')/\Own EJ w2 B (dU v'') (fV l ks (c1,c2)))/\Below B w w2/\(∀ j,j<w.heap.size->some j≠(dU (vo,vn,vc)).ownBlock->w2.heap[j]?=w.heap[j]?) from ⟨⟨(a1,_,a2),by rw [hv],by subst hv; simpa [fV] using ho⟩,(B1.out.trans (NB.mono (K BB.out S1.out))).trans hb,fun j hj hne=>(hoth j (J (J hj S1.out) NB.size) hne).trans ((NB.block j (J hj S1.out)).trans (BW.out j hj))⟩);clear ho hb hv hl NB;go_wp2;go_ret;exact Q.out
theorem Qv (l:List kr) (y:eT):gN sQ l y<=l.length:=by
 rw [jm];exact K (mK _ _) (by simp)
theorem U7 (B:Nat) (v:Sl) (l:List kr) (x:kr) (w:V) (ho:Own ED w B (dU v) l) (hr:kW sQ l) (hl:l.length<=900) (hB:B<=w.heap.size) :
  Calls Tryz.prog 70 #[dU v,nR x,.func (.func 71) #[] #[]] w fun e w'=>(∃ v':Sl,e=U (dU v')/\Own ED w' B (dU v') (fV l (gN sQ l (sQ x)) x))/\Below B w w'/\(∀ j,j<w.heap.size->some j≠(dU v).ownBlock->w'.heap[j]?=w.heap[j]?):=by
 have h0:=fI w (Z #[L O x.1,L O x.2.1,dU x.2.2.1,L O x.2.2.2] 53);have X:=dO w #[L O x.1,L O x.2.1,dU x.2.2.1,L O x.2.2.2] 53;have C:=D (Y9 (dU v) l x _ ((Row.dH ho).on h0) hr hl);obtain⟨ks,hks⟩:∃ k,k=gN sQ l (sQ x):=⟨_,rfl⟩;have KL:ks<=l.length:=by rw [hks]; exact Qv _ _
 have e1:sQ x=(x.1,x.2.1):=rfl;rw [<- e1] at C;rw [<- hks] at C;rw [<- hks];generalize mU sQ l (sQ x)=th at *;have OW:=D (Bk.dG ho h0);have HV:=D (show (dU v).ownBlock≠none->∃ g,(dU v).ownBlock=some g/\g<w.heap.size from fun hne=>by
  cases hb:(dU v).ownBlock with
  | none=>exact absurd hb hne
  | some g=>exact⟨g,rfl,(ho.lt g hb).2⟩)
 have B0:=D ((Below.refl B w).alloc hB (Z #[L O x.1,L O x.2.1,dU x.2.2.1,L O x.2.2.2] 53));have BN0:=D h0;have KK:=D KL;have LL:=D hl;have BB:=D hB;clear h0 ho hr hl hB hks KL;obtain⟨c1,c2,⟨c3,c4,c5⟩,c6⟩:=x;obtain⟨vo,vn,vc⟩:=v;simp only at C X;obtain⟨x0,x1,x2,x3⟩:=X.Ke;have XX:=D X;clear X;go_enter Tryz.func70,Tryz.ntmps70;go_wp2_with fail;have W1:=D (show w.heap.size<=(w.alloc (Z #[L O c1,L O c2,aj c3 c4 c5,L O c6] 53)).heap.size by simp);generalize w.alloc (Z #[L O c1,L O c2,aj c3 c4 c5,L O c6] 53)=W at *;refine C.out.mono ?_;rintro e w1 ⟨rfl,hb⟩;have Y:=XX.out.on hb;obtain⟨y0,y1,y2,y3⟩:=Y.Ke;have O1:=D (Bk.dG OW.out hb);have B1:=D (B0.out.trans (hb.mono (K BB.out W1.out)));have BW:=D (fun j (hj:j<w.heap.size)=>(hb.block j (J hj W1.out)).trans (BN0.out.block j hj));have S1:=D (K W1.out hb.size);clear C Y hb x0 x1 x2 x3;go_wp2_with fail;have hl:=LL.out;have NB:=fI w1 (Z #[L O c1,L O c2,aj c3 c4 c5,L O c6] 53);refine (Io B _ l ks (c1,c2,(c3,c4,c5),c6) w1.heap.size _ (Bk.dG O1.out NB) (dO w1 #[L O c1,L O c2,aj c3 c4 c5,L O c6] 53) ?_ KK.out (by omega) (K (K BB.out S1.out) NB.size)).mono ?_
 ·intro he;obtain⟨g,hg,hlt⟩:=HV.out (by rw [he]; simp);rw [he] at hg;have:=Option.some.inj hg;have:=S1.out;omega
 rintro e w2 ⟨v',rfl,ho,hb,hoth⟩;obtain⟨a1,a2,hv⟩:=(Row.dH ho).len;have Q:=D (show (∃ v'':Sl,U v'=U (dU v'')/\Own ED w2 B (dU v'') (fV l ks (c1,c2,(c3,c4,c5),c6)))/\Below B w w2/\(∀ j,j<w.heap.size->some j≠(dU (vo,vn,vc)).ownBlock->w2.heap[j]?=w.heap[j]?) from ⟨⟨(a1,_,a2),by rw [hv],by subst hv; simpa [fV] using ho⟩,(B1.out.trans (NB.mono (K BB.out S1.out))).trans hb,fun j hj hne=>(hoth j (J (J hj S1.out) NB.size) hne).trans ((NB.block j (J hj S1.out)).trans (BW.out j hj))⟩);clear ho hb hv hl NB;go_wp2;go_ret;exact Q.out
def Off (ob:Option Nat) (W x:V):Prop:=(∀ j,j<W.heap.size->some j≠ob->x.heap[j]?=W.heap[j]?)/\W.heap.size<=x.heap.size
def Tag (ob:Option Nat) (W:V) (t:ah):Prop:=∀ g,ob=some g->∃ d,dN W g d t
theorem jL {α:Type} {E:Ek α} {W:V} {B:Nat} {v:ak} {l:List α} (h:Own E W B v l):Tag v.ownBlock W E.t:=by
 intro g hg;rcases gQ h with⟨rfl,_⟩|⟨g',c',cur,rfl,_,h2,_⟩
 ·cases hg
 ·obtain rfl:g'=g:=by simpa [Value.ownBlock] using hg
  exact⟨cur,h2⟩
theorem Off.own {α:Type} {E:Ek α} {ob:Option Nat} {W x:V} {B:Nat} {v:ak} {l:List α} {t:ah} (h:Off ob W x) (ho:Own E W B v l) (hg:Tag ob W t) (hne:(E.t == t)=false):Own E x B v l:=by
 refine⟨ho.1,?_⟩;rcases ho.2 with h2|⟨g',cap,cur,h1,h2,h3,h4⟩
 ·exact Or.inl h2
 ·refine Or.inr ⟨g',cap,cur,h1,h2,?_,h4⟩;rw [h.1 g' (lt_of_heap h3) fun e=>by
   obtain⟨d,hd⟩:=hg g' e.symm;exact qN (show dN W g' cur E.t from h3) hd hne rfl]
  exact h3
theorem Off.box {ob:Option Nat} {W x:V} {b:Nat} {cs:Array ak} {s t:ah} (h:Off ob W x) (hb:dN W b cs s) (hg:Tag ob W t) (hne:(s == t)=false):dN x b cs s:=(h.1 b hb.lt fun e=>by
 obtain⟨d,hd⟩:=hg b e.symm;exact qN hb hd hne rfl).trans hb
theorem PM.off {w0 wr x:V} {B:Nat} {v:ak} {p:List C5} {ob:Option Nat} {t:ah} (h:PM w0 B wr v p) (hb:Off ob wr x) (hg:Tag ob wr t) (hne:(106 == t)=false):PM w0 B x v p:=h.imp id fun h=>hb.own h hg hne
theorem J9.off {w0 wr x:V} {B:Nat} {y:kr} {a:Ad} {ob:Option Nat} {t:ah} (h:J9 w0 B wr y a) (hb:Off ob wr x) (hg:Tag ob wr t) (hne:(106 == t)=false):J9 w0 B x y a:=⟨h.1,h.2.1,h.2.2.off hb hg hne⟩
theorem tq.off {w0 wr x:V} {B:Nat} {y:iH} {a:En} {ob:Option Nat} {t:ah} (h:tq w0 B wr y a) (hb:Off ob wr x) (hg:Tag ob wr t) (hne:(106 == t)=false):tq w0 B x y a:=⟨h.1,h.2.1,h.2.2.1,h.2.2.2.1,h.2.2.2.2.off hb hg hne⟩
theorem Nb.off {w0 wr x:V} {B:Nat} {y:pK} {a:Ow} {ob:Option Nat} {t:ah} (h:Nb w0 B wr y a) (hb:Off ob wr x) (hg:Tag ob wr t) (hne:(106 == t)=false):Nb w0 B x y a:=⟨h.1,h.2.off hb hg hne⟩
theorem Cp.ail {w0 wr x:V} {B:Nat} {b:Br} {nv av sv ev ov zx:Sl} {al:List Ad} (h:Cp w0 B wr b nv av sv ev ov) (hb:Off (dU av).ownBlock wr x) (hx:∃ l,lD x B (dU zx) l/\eH (J9 w0 B x) l al):Cp w0 B x { b with dQ:=al } nv zx sv ev ov:=by
 obtain⟨l0,hl0,_⟩:=h.dQ;have hg:=jL hl0;exact {
  near:=hb.own h.near hg (by decide)
  seen:=hb.own h.seen hg (by decide)
  dQ:=hx
  ent:=by obtain⟨l,h1,h2⟩:=h.ent; exact⟨l,hb.own h1 hg (by decide),h2.mono fun _ _ h=>h.off hb hg (by decide)⟩
  own:=by obtain⟨l,h1,h2⟩:=h.own; exact⟨l,hb.own h1 hg (by decide),h2.mono fun _ _ h=>h.off hb hg (by decide)⟩ }
theorem Cp.Za {w0 wr x:V} {B:Nat} {b:Br} {nv av sv ev ov ev':Sl} {el:List En} (h:Cp w0 B wr b nv av sv ev ov) (hb:Off (dU ev).ownBlock wr x) (hx:∃ l,iU x B (dU ev') l/\eH (tq w0 B x) l el):Cp w0 B x { b with ent:=el } nv av sv ev' ov:=by
 obtain⟨l0,hl0,_⟩:=h.ent;have hg:=jL hl0;exact {
  near:=hb.own h.near hg (by decide)
  seen:=hb.own h.seen hg (by decide)
  dQ:=by obtain⟨l,h1,h2⟩:=h.dQ; exact⟨l,hb.own h1 hg (by decide),h2.mono fun _ _ h=>h.off hb hg (by decide)⟩
  ent:=hx
  own:=by obtain⟨l,h1,h2⟩:=h.own; exact⟨l,hb.own h1 hg (by decide),h2.mono fun _ _ h=>h.off hb hg (by decide)⟩ }
theorem Cp.ain {w0 wr x:V} {B:Nat} {b:Br} {nv av sv ev ov He:Sl} {sl:List eT} (h:Cp w0 B wr b nv av sv ev ov) (hb:Off (dU sv).ownBlock wr x) (hx:qY x B (dU He) sl):Cp w0 B x { b with seen:=sl } nv av He ev ov:=by
 have hg:=jL h.seen;exact {
  near:=hb.own h.near hg (by decide)
  seen:=hx
  dQ:=by obtain⟨l,h1,h2⟩:=h.dQ; exact⟨l,hb.own h1 hg (by decide),h2.mono fun _ _ h=>h.off hb hg (by decide)⟩
  ent:=by obtain⟨l,h1,h2⟩:=h.ent; exact⟨l,hb.own h1 hg (by decide),h2.mono fun _ _ h=>h.off hb hg (by decide)⟩
  own:=by obtain⟨l,h1,h2⟩:=h.own; exact⟨l,hb.own h1 hg (by decide),h2.mono fun _ _ h=>h.off hb hg (by decide)⟩ }
theorem Az {α β:Type} {R:α->β->Prop} {l:List α} {m:List β} (h:eH R l m) (k:Nat) {a:α} {b:β} (hr:R a b):eH R (fV l k a) (fV m k b) :=
 ((h.take k).append (.cons hr .nil)).append (h.drop k)
theorem keys_eq {w0 wr:V} {B:Nat}:∀ {l:List kr} {al:List Ad},eH (J9 w0 B wr) l al->l.map sQ=al.map Ad.id
 | _,_,.nil=>rfl
 | _,_,.cons h t=>by rw [List.map_cons,List.map_cons,keys_eq t]; exact congrArg (·::_) h.1
theorem Ed {α:Type} (key:α->eT) (l:List α):kW key l↔kW (fun x:eT=>x) (l.map key):=by
 unfold kW;rw [List.pairwise_map]
end Go.Proofs.YtkcfgbddlpomgaaGreat.Av
