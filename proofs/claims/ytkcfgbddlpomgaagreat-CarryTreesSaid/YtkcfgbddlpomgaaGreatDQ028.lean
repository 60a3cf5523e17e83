/-
  put of package adver. Conditions as told.
-/
import Derived.Test.YtkcfgbddlpomgaaGreatDQ024
import Derived.Test.YtkcfgbddlpomgaaGreatDQ025
import Derived.Test.YtkcfgbddlpomgaaGreatDQ026
import Derived.Test.YtkcfgbddlpomgaaGreatDQ027
set_option maxRecDepth 100000
set_option maxHeartbeats 64000000
open _root_.Go renaming World->V,TypeId->ah,Value->ak
open Go.Ending renaming returned->U
open Go.IntKind renaming i64->O
open Go.Lib renaming hid->D
open Go.Obj renaming cells->Z
open Go.Value renaming int->L,slice->aj
open _root_.Nat renaming lt_of_lt_of_le->J,le_trans->K
namespace Go.Proofs.YtkcfgbddlpomgaaGreat.Av
open Go.RowKit Go.Sort Rw YtkcfgbddlpomgaaGreat.Nm Pr Bk
theorem Oc (l:List eO) (y:eO):gF tu l y<=l.length:=by
 rw [iV];exact K (kZ _ _) (by simp)
theorem Sg (B:Nat) (v:Sl) (l:List eO) (x:eO) (w:V) (ho:Own EJ w B (dR v) l) (hr:ko tu l) (hl:l.length<=900) (hB:B<=w.heap.size) :
  Calls Tryz.prog 72 #[dR v,mD x,.func (.func 73) #[] #[]] w fun e w'=>(∃ v':Sl,e=U (dR v')/\Own EJ w' B (dR v') (fP l (gF tu l (tu x)) x))/\Below B w w'/\(∀ j,j<w.heap.size->some j≠(dR v).ownBlock->w'.heap[j]?=w.heap[j]?):=by
 have h0:=fE w (Z #[L O x.1,L O x.2] 38);have X:=dL w #[L O x.1,L O x.2] 38;have C:=D (Xb (dR v) l x _ ((Row.dx ho).on h0) hr hl);obtain⟨ks,hks⟩:∃ k,k=gF tu l (tu x):=⟨_,rfl⟩;have KL:ks<=l.length:=by rw [hks]; exact Oc _ _
 rw [<- hks] at C;rw [<- hks];generalize lF tu l (tu x)=th at *;have OW:=D (Bk.dB ho h0);have HV:=D (show (dR v).ownBlock≠none->∃ g,(dR v).ownBlock=some g/\g<w.heap.size from fun hne=>by
  cases hb:(dR v).ownBlock with
  | none=>exact absurd hb hne
  | some g=>exact⟨g,rfl,(ho.lt g hb).2⟩)
 have B0:=D ((Below.refl B w).alloc hB (Z #[L O x.1,L O x.2] 38));have BN0:=D h0;have KK:=D KL;have LL:=D hl;have BB:=D hB;clear h0 ho hr hl hB hks KL;obtain⟨c1,c2⟩:=x;obtain⟨vo,vn,vc⟩:=v;simp only at C X;obtain⟨x0,x1⟩:=X.cs2;have XX:=D X;clear X;go_enter Tryz.func72,Tryz.ntmps72;go_wp2_with fail;have W1:=D (show w.heap.size<=(w.alloc (Z #[L O c1,L O c2] 38)).heap.size by simp);generalize w.alloc (Z #[L O c1,L O c2] 38)=W at *;refine C.out.mono ?_;rintro e w1 ⟨rfl,hb⟩;have Y:=XX.out.on hb;obtain⟨y0,y1⟩:=Y.cs2;have O1:=D (Bk.dB OW.out hb);have B1:=D (B0.out.trans (hb.mono (K BB.out W1.out)));have BW:=D (fun j (hj:j<w.heap.size)=>(hb.block j (J hj W1.out)).trans (BN0.out.block j hj));have S1:=D (K W1.out hb.size);clear C Y hb x0 x1;go_wp2_with fail;have hl:=LL.out;have NB:=fE w1 (Z #[L O c1,L O c2] 38);refine (Gr B _ l ks (c1,c2) w1.heap.size _ (Bk.dB O1.out NB) (dL w1 #[L O c1,L O c2] 38) ?_ KK.out (by omega) (K (K BB.out S1.out) NB.size)).mono ?_
 ·intro he;obtain⟨g,hg,hlt⟩:=HV.out (by rw [he]; simp);rw [he] at hg;have:=Option.some.inj hg;have:=S1.out;omega
 rintro e w2 ⟨v',rfl,ho,hb,hoth⟩;obtain⟨a1,a2,hv⟩:=(Row.dx ho).len;have Q:=D (show (∃ v'':Sl,U v'=U (dR v'')/\Own EJ w2 B (dR v'') (fP l ks (c1,c2)))/\Below B w w2/\(∀ j,j<w.heap.size->some j≠(dR (vo,vn,vc)).ownBlock->w2.heap[j]?=w.heap[j]?) from ⟨⟨(a1,_,a2),by rw [hv],by subst hv; simpa [fP] using ho⟩,(B1.out.trans (NB.mono (K BB.out S1.out))).trans hb,fun j hj hne=>(hoth j (J (J hj S1.out) NB.size) hne).trans ((NB.block j (J hj S1.out)).trans (BW.out j hj))⟩);clear ho hb hv hl NB;go_wp2;go_ret;exact Q.out
theorem Od (l:List jD) (y:eO):gF qI l y<=l.length:=by
 rw [iV];exact K (kZ _ _) (by simp)
theorem Si (B:Nat) (v:Sl) (l:List jD) (x:jD) (w:V) (ho:Own ED w B (dR v) l) (hr:ko qI l) (hl:l.length<=900) (hB:B<=w.heap.size) :
  Calls Tryz.prog 70 #[dR v,lV x,.func (.func 71) #[] #[]] w fun e w'=>(∃ v':Sl,e=U (dR v')/\Own ED w' B (dR v') (fP l (gF qI l (qI x)) x))/\Below B w w'/\(∀ j,j<w.heap.size->some j≠(dR v).ownBlock->w'.heap[j]?=w.heap[j]?):=by
 have h0:=fE w (Z #[L O x.1,L O x.2.1,dR x.2.2.1,L O x.2.2.2] 53);have X:=dL w #[L O x.1,L O x.2.1,dR x.2.2.1,L O x.2.2.2] 53;have C:=D (Xc (dR v) l x _ ((Row.dx ho).on h0) hr hl);obtain⟨ks,hks⟩:∃ k,k=gF qI l (qI x):=⟨_,rfl⟩;have KL:ks<=l.length:=by rw [hks]; exact Od _ _
 have e1:qI x=(x.1,x.2.1):=rfl;rw [<- e1] at C;rw [<- hks] at C;rw [<- hks];generalize lF qI l (qI x)=th at *;have OW:=D (Bk.dB ho h0);have HV:=D (show (dR v).ownBlock≠none->∃ g,(dR v).ownBlock=some g/\g<w.heap.size from fun hne=>by
  cases hb:(dR v).ownBlock with
  | none=>exact absurd hb hne
  | some g=>exact⟨g,rfl,(ho.lt g hb).2⟩)
 have B0:=D ((Below.refl B w).alloc hB (Z #[L O x.1,L O x.2.1,dR x.2.2.1,L O x.2.2.2] 53));have BN0:=D h0;have KK:=D KL;have LL:=D hl;have BB:=D hB;clear h0 ho hr hl hB hks KL;obtain⟨c1,c2,⟨c3,c4,c5⟩,c6⟩:=x;obtain⟨vo,vn,vc⟩:=v;simp only at C X;obtain⟨x0,x1,x2,x3⟩:=X.I8;have XX:=D X;clear X;go_enter Tryz.func70,Tryz.ntmps70;go_wp2_with fail;have W1:=D (show w.heap.size<=(w.alloc (Z #[L O c1,L O c2,aj c3 c4 c5,L O c6] 53)).heap.size by simp);generalize w.alloc (Z #[L O c1,L O c2,aj c3 c4 c5,L O c6] 53)=W at *;refine C.out.mono ?_;rintro e w1 ⟨rfl,hb⟩;have Y:=XX.out.on hb;obtain⟨y0,y1,y2,y3⟩:=Y.I8;have O1:=D (Bk.dB OW.out hb);have B1:=D (B0.out.trans (hb.mono (K BB.out W1.out)));have BW:=D (fun j (hj:j<w.heap.size)=>(hb.block j (J hj W1.out)).trans (BN0.out.block j hj));have S1:=D (K W1.out hb.size);clear C Y hb x0 x1 x2 x3;go_wp2_with fail;have hl:=LL.out;have NB:=fE w1 (Z #[L O c1,L O c2,aj c3 c4 c5,L O c6] 53);refine (GK B _ l ks (c1,c2,(c3,c4,c5),c6) w1.heap.size _ (Bk.dB O1.out NB) (dL w1 #[L O c1,L O c2,aj c3 c4 c5,L O c6] 53) ?_ KK.out (by omega) (K (K BB.out S1.out) NB.size)).mono ?_
 ·intro he;obtain⟨g,hg,hlt⟩:=HV.out (by rw [he]; simp);rw [he] at hg;have:=Option.some.inj hg;have:=S1.out;omega
 rintro e w2 ⟨v',rfl,ho,hb,hoth⟩;obtain⟨a1,a2,hv⟩:=(Row.dx ho).len;have Q:=D (show (∃ v'':Sl,U v'=U (dR v'')/\Own ED w2 B (dR v'') (fP l ks (c1,c2,(c3,c4,c5),c6)))/\Below B w w2/\(∀ j,j<w.heap.size->some j≠(dR (vo,vn,vc)).ownBlock->w2.heap[j]?=w.heap[j]?) from ⟨⟨(a1,_,a2),by rw [hv],by subst hv; simpa [fP] using ho⟩,(B1.out.trans (NB.mono (K BB.out S1.out))).trans hb,fun j hj hne=>(hoth j (J (J hj S1.out) NB.size) hne).trans ((NB.block j (J hj S1.out)).trans (BW.out j hj))⟩);clear ho hb hv hl NB;go_wp2;go_ret;exact Q.out
def Off (ob:Option Nat) (W x:V):Prop:=(∀ j,j<W.heap.size->some j≠ob->x.heap[j]?=W.heap[j]?)/\W.heap.size<=x.heap.size
def Tag (ob:Option Nat) (W:V) (t:ah):Prop:=∀ g,ob=some g->∃ d,dJ W g d t
theorem kL {α:Type} {E:Ek α} {W:V} {B:Nat} {v:ak} {l:List α} (h:Own E W B v l):Tag v.ownBlock W E.t:=by
 intro g hg;rcases iT h with⟨rfl,_⟩|⟨g',c',cur,rfl,_,h2,_⟩
 ·cases hg
 ·obtain rfl:g'=g:=by simpa [Value.ownBlock] using hg
  exact⟨cur,h2⟩
theorem Off.own {α:Type} {E:Ek α} {ob:Option Nat} {W x:V} {B:Nat} {v:ak} {l:List α} {t:ah} (h:Off ob W x) (ho:Own E W B v l) (hg:Tag ob W t) (hne:(E.t == t)=false):Own E x B v l:=by
 refine⟨ho.1,?_⟩;rcases ho.2 with h2|⟨g',cap,cur,h1,h2,h3,h4⟩
 ·exact Or.inl h2
 ·refine Or.inr ⟨g',cap,cur,h1,h2,?_,h4⟩;rw [h.1 g' (lt_of_heap h3) fun e=>by
   obtain⟨d,hd⟩:=hg g' e.symm;exact qD (show dJ W g' cur E.t from h3) hd hne rfl]
  exact h3
theorem Off.box {ob:Option Nat} {W x:V} {b:Nat} {cs:Array ak} {s t:ah} (h:Off ob W x) (hb:dJ W b cs s) (hg:Tag ob W t) (hne:(s == t)=false):dJ x b cs s:=(h.1 b hb.lt fun e=>by
 obtain⟨d,hd⟩:=hg b e.symm;exact qD hb hd hne rfl).trans hb
theorem PM.off {w0 wr x:V} {B:Nat} {v:ak} {p:List C5} {ob:Option Nat} {t:ah} (h:PM w0 B wr v p) (hb:Off ob wr x) (hg:Tag ob wr t) (hne:(106 == t)=false):PM w0 B x v p:=h.imp id fun h=>hb.own h hg hne
theorem I9.off {w0 wr x:V} {B:Nat} {y:jD} {a:Ad} {ob:Option Nat} {t:ah} (h:I9 w0 B wr y a) (hb:Off ob wr x) (hg:Tag ob wr t) (hne:(106 == t)=false):I9 w0 B x y a:=⟨h.1,h.2.1,h.2.2.off hb hg hne⟩
theorem Az.off {w0 wr x:V} {B:Nat} {y:iA} {a:En} {ob:Option Nat} {t:ah} (h:Az w0 B wr y a) (hb:Off ob wr x) (hg:Tag ob wr t) (hne:(106 == t)=false):Az w0 B x y a:=⟨h.1,h.2.1,h.2.2.1,h.2.2.2.1,h.2.2.2.2.off hb hg hne⟩
theorem Kz.off {w0 wr x:V} {B:Nat} {y:qM} {a:Ow} {ob:Option Nat} {t:ah} (h:Kz w0 B wr y a) (hb:Off ob wr x) (hg:Tag ob wr t) (hne:(106 == t)=false):Kz w0 B x y a:=⟨h.1,h.2.off hb hg hne⟩
theorem Cp.agb {w0 wr x:V} {B:Nat} {b:Br} {nv av sv ev ov xX:Sl} {al:List Ad} (h:Cp w0 B wr b nv av sv ev ov) (hb:Off (dR av).ownBlock wr x) (hx:∃ l,kQ x B (dR xX) l/\eB (I9 w0 B x) l al):Cp w0 B x { b with dO:=al } nv xX sv ev ov:=by
 obtain⟨l0,hl0,_⟩:=h.dO;have hg:=kL hl0;exact {
  near:=hb.own h.near hg (by decide)
  seen:=hb.own h.seen hg (by decide)
  dO:=hx
  ent:=by obtain⟨l,h1,h2⟩:=h.ent; exact⟨l,hb.own h1 hg (by decide),h2.mono fun _ _ h=>h.off hb hg (by decide)⟩
  own:=by obtain⟨l,h1,h2⟩:=h.own; exact⟨l,hb.own h1 hg (by decide),h2.mono fun _ _ h=>h.off hb hg (by decide)⟩ }
theorem Cp.adC {w0 wr x:V} {B:Nat} {b:Br} {nv av sv ev ov ev':Sl} {el:List En} (h:Cp w0 B wr b nv av sv ev ov) (hb:Off (dR ev).ownBlock wr x) (hx:∃ l,jg x B (dR ev') l/\eB (Az w0 B x) l el):Cp w0 B x { b with ent:=el } nv av sv ev' ov:=by
 obtain⟨l0,hl0,_⟩:=h.ent;have hg:=kL hl0;exact {
  near:=hb.own h.near hg (by decide)
  seen:=hb.own h.seen hg (by decide)
  dO:=by obtain⟨l,h1,h2⟩:=h.dO; exact⟨l,hb.own h1 hg (by decide),h2.mono fun _ _ h=>h.off hb hg (by decide)⟩
  ent:=hx
  own:=by obtain⟨l,h1,h2⟩:=h.own; exact⟨l,hb.own h1 hg (by decide),h2.mono fun _ _ h=>h.off hb hg (by decide)⟩ }
theorem Cp.agc {w0 wr x:V} {B:Nat} {b:Br} {nv av sv ev ov Fw:Sl} {sl:List eO} (h:Cp w0 B wr b nv av sv ev ov) (hb:Off (dR sv).ownBlock wr x) (hx:qB x B (dR Fw) sl):Cp w0 B x { b with seen:=sl } nv av Fw ev ov:=by
 have hg:=kL h.seen;exact {
  near:=hb.own h.near hg (by decide)
  seen:=hx
  dO:=by obtain⟨l,h1,h2⟩:=h.dO; exact⟨l,hb.own h1 hg (by decide),h2.mono fun _ _ h=>h.off hb hg (by decide)⟩
  ent:=by obtain⟨l,h1,h2⟩:=h.ent; exact⟨l,hb.own h1 hg (by decide),h2.mono fun _ _ h=>h.off hb hg (by decide)⟩
  own:=by obtain⟨l,h1,h2⟩:=h.own; exact⟨l,hb.own h1 hg (by decide),h2.mono fun _ _ h=>h.off hb hg (by decide)⟩ }
theorem zu {α β:Type} {R:α->β->Prop} {l:List α} {m:List β} (h:eB R l m) (k:Nat) {a:α} {b:β} (hr:R a b):eB R (fP l k a) (fP m k b) :=
 ((h.take k).append (.cons hr .nil)).append (h.drop k)
theorem keys_eq {w0 wr:V} {B:Nat}:∀ {l:List jD} {al:List Ad},eB (I9 w0 B wr) l al->l.map qI=al.map Ad.id
 | _,_,.nil=>rfl
 | _,_,.cons h t=>by rw [List.map_cons,List.map_cons,keys_eq t]; exact congrArg (·::_) h.1
theorem Dk {α:Type} (key:α->eO) (l:List α):ko key l↔ko (fun x:eO=>x) (l.map key):=by
 unfold ko;rw [List.pairwise_map]
end Go.Proofs.YtkcfgbddlpomgaaGreat.Av
