/-
  put of package adver. Conditions as told.
-/
import Derived.Test.YtkcfgbddlpomgaaGreatLQ024
import Derived.Test.YtkcfgbddlpomgaaGreatLQ025
import Derived.Test.YtkcfgbddlpomgaaGreatLQ011
import Derived.Test.YtkcfgbddlpomgaaGreatLQ027
set_option maxRecDepth 100000
set_option maxHeartbeats 64000000
open _root_.Go renaming World->V,TypeId->ah,Value->ak
open Go.Ending renaming returned->U
open Go.IntKind renaming i64->O
open Go.Lib renaming hid->D
open Go.Obj renaming cells->Z
open Go.Value renaming int->L,slice->aj
open _root_.Nat renaming lt_of_lt_of_le->J,le_trans->K
namespace Go.Proofs.YtkcfgbddlpomgaaGreat.Av
open Go.RowKit Go.Sort Rw YtkcfgbddlpomgaaGreat.Nm Pr Bk
theorem N7 (l:List eG) (y:eG):gu sU l y<=l.length:=by
 rw [iT];exact K (kY _ _) (by simp)
theorem RZ (B:Nat) (v:Sl) (l:List eG) (x:eG) (w:V) (ho:Own EJ w B (dP v) l) (hr:j6 sU l) (hl:l.length<=900) (hB:B<=w.heap.size) :
  Calls Tryz.prog 72 #[dP v,lV x,.func (.func 73) #[] #[]] w fun e w'=>(∃ v':Sl,e=U (dP v')/\Own EJ w' B (dP v') (fM l (gu sU l (sU x)) x))/\Below B w w'/\(∀ j,j<w.heap.size->some j≠(dP v).ownBlock->w'.heap[j]?=w.heap[j]?):=by
 have h0:=fO w (Z #[L O x.1,L O x.2] 38);have X:=dK w #[L O x.1,L O x.2] 38;have C:=D (Wz (dP v) l x _ ((Row.dw ho).on h0) hr hl);obtain⟨ks,hks⟩:∃ k,k=gu sU l (sU x):=⟨_,rfl⟩;have KL:ks<=l.length:=by rw [hks]; exact N7 _ _
 rw [<- hks] at C;rw [<- hks];generalize lG sU l (sU x)=th at *;have OW:=D (Bk.dx ho h0);have HV:=D (show (dP v).ownBlock≠none->∃ g,(dP v).ownBlock=some g/\g<w.heap.size from fun hne=>by
  cases hb:(dP v).ownBlock with
  | none=>exact absurd hb hne
  | some g=>exact⟨g,rfl,(ho.lt g hb).2⟩)
 have B0:=D ((Below.refl B w).alloc hB (Z #[L O x.1,L O x.2] 38));have BN0:=D h0;have KK:=D KL;have LL:=D hl;have BB:=D hB;clear h0 ho hr hl hB hks KL;obtain⟨c1,c2⟩:=x;obtain⟨vo,vn,vc⟩:=v;simp only at C X;obtain⟨x0,x1⟩:=X.cs2;have XX:=D X;clear X;go_enter Tryz.func72,Tryz.ntmps72;go_wp2_with fail;have W1:=D (show w.heap.size<=(w.alloc (Z #[L O c1,L O c2] 38)).heap.size by simp);generalize w.alloc (Z #[L O c1,L O c2] 38)=W at *;refine C.out.mono ?_;rintro e w1 ⟨rfl,hb⟩;have Y:=XX.out.on hb;obtain⟨y0,y1⟩:=Y.cs2;have O1:=D (Bk.dx OW.out hb);have B1:=D (B0.out.trans (hb.mono (K BB.out W1.out)));have BW:=D (fun j (hj:j<w.heap.size)=>(hb.block j (J hj W1.out)).trans (BN0.out.block j hj));have S1:=D (K W1.out hb.size);clear C Y hb x0 x1;go_wp2_with fail;have hl:=LL.out;have NB:=fO w1 (Z #[L O c1,L O c2] 38);refine (Fx B _ l ks (c1,c2) w1.heap.size _ (Bk.dx O1.out NB) (dK w1 #[L O c1,L O c2] 38) ?_ KK.out (by omega) (K (K BB.out S1.out) NB.size)).mono ?_
 ·intro he;obtain⟨g,hg,hlt⟩:=HV.out (by rw [he]; simp);rw [he] at hg;have:=Option.some.inj hg;have:=S1.out;omega
 rintro e w2 ⟨v',rfl,ho,hb,hoth⟩;obtain⟨a1,a2,hv⟩:=(Row.dw ho).len;have Q:=D (show (∃ v'':Sl,U v'=U (dP v'')/\Own EJ w2 B (dP v'') (fM l ks (c1,c2)))/\Below B w w2/\(∀ j,j<w.heap.size->some j≠(dP (vo,vn,vc)).ownBlock->w2.heap[j]?=w.heap[j]?) from ⟨⟨(a1,_,a2),by rw [hv],by subst hv; simpa [fM] using ho⟩,(B1.out.trans (NB.mono (K BB.out S1.out))).trans hb,fun j hj hne=>(hoth j (J (J hj S1.out) NB.size) hne).trans ((NB.block j (J hj S1.out)).trans (BW.out j hj))⟩);clear ho hb hv hl NB;go_wp2;go_ret;exact Q.out
theorem N9 (l:List jC) (y:eG):gu qR l y<=l.length:=by
 rw [iT];exact K (kY _ _) (by simp)
theorem R6 (B:Nat) (v:Sl) (l:List jC) (x:jC) (w:V) (ho:Own ED w B (dP v) l) (hr:j6 qR l) (hl:l.length<=900) (hB:B<=w.heap.size) :
  Calls Tryz.prog 70 #[dP v,lU x,.func (.func 71) #[] #[]] w fun e w'=>(∃ v':Sl,e=U (dP v')/\Own ED w' B (dP v') (fM l (gu qR l (qR x)) x))/\Below B w w'/\(∀ j,j<w.heap.size->some j≠(dP v).ownBlock->w'.heap[j]?=w.heap[j]?):=by
 have h0:=fO w (Z #[L O x.1,L O x.2.1,dP x.2.2.1,L O x.2.2.2] 53);have X:=dK w #[L O x.1,L O x.2.1,dP x.2.2.1,L O x.2.2.2] 53;have C:=D (WA (dP v) l x _ ((Row.dw ho).on h0) hr hl);obtain⟨ks,hks⟩:∃ k,k=gu qR l (qR x):=⟨_,rfl⟩;have KL:ks<=l.length:=by rw [hks]; exact N9 _ _
 have e1:qR x=(x.1,x.2.1):=rfl;rw [<- e1] at C;rw [<- hks] at C;rw [<- hks];generalize lG qR l (qR x)=th at *;have OW:=D (Bk.dx ho h0);have HV:=D (show (dP v).ownBlock≠none->∃ g,(dP v).ownBlock=some g/\g<w.heap.size from fun hne=>by
  cases hb:(dP v).ownBlock with
  | none=>exact absurd hb hne
  | some g=>exact⟨g,rfl,(ho.lt g hb).2⟩)
 have B0:=D ((Below.refl B w).alloc hB (Z #[L O x.1,L O x.2.1,dP x.2.2.1,L O x.2.2.2] 53));have BN0:=D h0;have KK:=D KL;have LL:=D hl;have BB:=D hB;clear h0 ho hr hl hB hks KL;obtain⟨c1,c2,⟨c3,c4,c5⟩,c6⟩:=x;obtain⟨vo,vn,vc⟩:=v;simp only at C X;obtain⟨x0,x1,x2,x3⟩:=X.IK;have XX:=D X;clear X;go_enter Tryz.func70,Tryz.ntmps70;go_wp2_with fail;have W1:=D (show w.heap.size<=(w.alloc (Z #[L O c1,L O c2,aj c3 c4 c5,L O c6] 53)).heap.size by simp);generalize w.alloc (Z #[L O c1,L O c2,aj c3 c4 c5,L O c6] 53)=W at *;refine C.out.mono ?_;rintro e w1 ⟨rfl,hb⟩;have Y:=XX.out.on hb;obtain⟨y0,y1,y2,y3⟩:=Y.IK;have O1:=D (Bk.dx OW.out hb);have B1:=D (B0.out.trans (hb.mono (K BB.out W1.out)));have BW:=D (fun j (hj:j<w.heap.size)=>(hb.block j (J hj W1.out)).trans (BN0.out.block j hj));have S1:=D (K W1.out hb.size);clear C Y hb x0 x1 x2 x3;go_wp2_with fail;have hl:=LL.out;have NB:=fO w1 (Z #[L O c1,L O c2,aj c3 c4 c5,L O c6] 53);refine (Gs B _ l ks (c1,c2,(c3,c4,c5),c6) w1.heap.size _ (Bk.dx O1.out NB) (dK w1 #[L O c1,L O c2,aj c3 c4 c5,L O c6] 53) ?_ KK.out (by omega) (K (K BB.out S1.out) NB.size)).mono ?_
 ·intro he;obtain⟨g,hg,hlt⟩:=HV.out (by rw [he]; simp);rw [he] at hg;have:=Option.some.inj hg;have:=S1.out;omega
 rintro e w2 ⟨v',rfl,ho,hb,hoth⟩;obtain⟨a1,a2,hv⟩:=(Row.dw ho).len;have Q:=D (show (∃ v'':Sl,U v'=U (dP v'')/\Own ED w2 B (dP v'') (fM l ks (c1,c2,(c3,c4,c5),c6)))/\Below B w w2/\(∀ j,j<w.heap.size->some j≠(dP (vo,vn,vc)).ownBlock->w2.heap[j]?=w.heap[j]?) from ⟨⟨(a1,_,a2),by rw [hv],by subst hv; simpa [fM] using ho⟩,(B1.out.trans (NB.mono (K BB.out S1.out))).trans hb,fun j hj hne=>(hoth j (J (J hj S1.out) NB.size) hne).trans ((NB.block j (J hj S1.out)).trans (BW.out j hj))⟩);clear ho hb hv hl NB;go_wp2;go_ret;exact Q.out
def Off (ob:Option Nat) (W x:V):Prop:=(∀ j,j<W.heap.size->some j≠ob->x.heap[j]?=W.heap[j]?)/\W.heap.size<=x.heap.size
def Tag (ob:Option Nat) (W:V) (t:ah):Prop:=∀ g,ob=some g->∃ d,dI W g d t
theorem kJ {α:Type} {E:Ek α} {W:V} {B:Nat} {v:ak} {l:List α} (h:Own E W B v l):Tag v.ownBlock W E.t:=by
 intro g hg;rcases iR h with⟨rfl,_⟩|⟨g',c',cur,rfl,_,h2,_⟩
 ·cases hg
 ·obtain rfl:g'=g:=by simpa [Value.ownBlock] using hg
  exact⟨cur,h2⟩
theorem Off.own {α:Type} {E:Ek α} {ob:Option Nat} {W x:V} {B:Nat} {v:ak} {l:List α} {t:ah} (h:Off ob W x) (ho:Own E W B v l) (hg:Tag ob W t) (hne:(E.t == t)=false):Own E x B v l:=by
 refine⟨ho.1,?_⟩;rcases ho.2 with h2|⟨g',cap,cur,h1,h2,h3,h4⟩
 ·exact Or.inl h2
 ·refine Or.inr ⟨g',cap,cur,h1,h2,?_,h4⟩;rw [h.1 g' (lt_of_heap h3) fun e=>by
   obtain⟨d,hd⟩:=hg g' e.symm;exact qM (show dI W g' cur E.t from h3) hd hne rfl]
  exact h3
theorem Off.box {ob:Option Nat} {W x:V} {b:Nat} {cs:Array ak} {s t:ah} (h:Off ob W x) (hb:dI W b cs s) (hg:Tag ob W t) (hne:(s == t)=false):dI x b cs s:=(h.1 b hb.lt fun e=>by
 obtain⟨d,hd⟩:=hg b e.symm;exact qM hb hd hne rfl).trans hb
theorem PM.off {w0 wr x:V} {B:Nat} {v:ak} {p:List C5} {ob:Option Nat} {t:ah} (h:PM w0 B wr v p) (hb:Off ob wr x) (hg:Tag ob wr t) (hne:(106 == t)=false):PM w0 B x v p:=h.imp id fun h=>hb.own h hg hne
theorem IQ.off {w0 wr x:V} {B:Nat} {y:jC} {a:Ad} {ob:Option Nat} {t:ah} (h:IQ w0 B wr y a) (hb:Off ob wr x) (hg:Tag ob wr t) (hne:(106 == t)=false):IQ w0 B x y a:=⟨h.1,h.2.1,h.2.2.off hb hg hne⟩
theorem Ak.off {w0 wr x:V} {B:Nat} {y:iF} {a:En} {ob:Option Nat} {t:ah} (h:Ak w0 B wr y a) (hb:Off ob wr x) (hg:Tag ob wr t) (hne:(106 == t)=false):Ak w0 B x y a:=⟨h.1,h.2.1,h.2.2.1,h.2.2.2.1,h.2.2.2.2.off hb hg hne⟩
theorem Kr.off {w0 wr x:V} {B:Nat} {y:qK} {a:Ow} {ob:Option Nat} {t:ah} (h:Kr w0 B wr y a) (hb:Off ob wr x) (hg:Tag ob wr t) (hne:(106 == t)=false):Kr w0 B x y a:=⟨h.1,h.2.off hb hg hne⟩
theorem Cp.afn {w0 wr x:V} {B:Nat} {b:Br} {nv av sv ev ov Aw:Sl} {al:List Ad} (h:Cp w0 B wr b nv av sv ev ov) (hb:Off (dP av).ownBlock wr x) (hx:∃ l,kW x B (dP Aw) l/\eu (IQ w0 B x) l al):Cp w0 B x { b with dM:=al } nv Aw sv ev ov:=by
 obtain⟨l0,hl0,_⟩:=h.dM;have hg:=kJ hl0;exact {
  near:=hb.own h.near hg (by decide)
  seen:=hb.own h.seen hg (by decide)
  dM:=hx
  ent:=by obtain⟨l,h1,h2⟩:=h.ent; exact⟨l,hb.own h1 hg (by decide),h2.mono fun _ _ h=>h.off hb hg (by decide)⟩
  own:=by obtain⟨l,h1,h2⟩:=h.own; exact⟨l,hb.own h1 hg (by decide),h2.mono fun _ _ h=>h.off hb hg (by decide)⟩ }
theorem Cp.acZ {w0 wr x:V} {B:Nat} {b:Br} {nv av sv ev ov ev':Sl} {el:List En} (h:Cp w0 B wr b nv av sv ev ov) (hb:Off (dP ev).ownBlock wr x) (hx:∃ l,jA x B (dP ev') l/\eu (Ak w0 B x) l el):Cp w0 B x { b with ent:=el } nv av sv ev' ov:=by
 obtain⟨l0,hl0,_⟩:=h.ent;have hg:=kJ hl0;exact {
  near:=hb.own h.near hg (by decide)
  seen:=hb.own h.seen hg (by decide)
  dM:=by obtain⟨l,h1,h2⟩:=h.dM; exact⟨l,hb.own h1 hg (by decide),h2.mono fun _ _ h=>h.off hb hg (by decide)⟩
  ent:=hx
  own:=by obtain⟨l,h1,h2⟩:=h.own; exact⟨l,hb.own h1 hg (by decide),h2.mono fun _ _ h=>h.off hb hg (by decide)⟩ }
theorem Cp.afo {w0 wr x:V} {B:Nat} {b:Br} {nv av sv ev ov Je:Sl} {sl:List eG} (h:Cp w0 B wr b nv av sv ev ov) (hb:Off (dP sv).ownBlock wr x) (hx:qY x B (dP Je) sl):Cp w0 B x { b with seen:=sl } nv av Je ev ov:=by
 have hg:=kJ h.seen;exact {
  near:=hb.own h.near hg (by decide)
  seen:=hx
  dM:=by obtain⟨l,h1,h2⟩:=h.dM; exact⟨l,hb.own h1 hg (by decide),h2.mono fun _ _ h=>h.off hb hg (by decide)⟩
  ent:=by obtain⟨l,h1,h2⟩:=h.ent; exact⟨l,hb.own h1 hg (by decide),h2.mono fun _ _ h=>h.off hb hg (by decide)⟩
  own:=by obtain⟨l,h1,h2⟩:=h.own; exact⟨l,hb.own h1 hg (by decide),h2.mono fun _ _ h=>h.off hb hg (by decide)⟩ }
theorem zk {α β:Type} {R:α->β->Prop} {l:List α} {m:List β} (h:eu R l m) (k:Nat) {a:α} {b:β} (hr:R a b):eu R (fM l k a) (fM m k b) :=
 ((h.take k).append (.cons hr .nil)).append (h.drop k)
theorem keys_eq {w0 wr:V} {B:Nat}:∀ {l:List jC} {al:List Ad},eu (IQ w0 B wr) l al->l.map qR=al.map Ad.id
 | _,_,.nil=>rfl
 | _,_,.cons h t=>by rw [List.map_cons,List.map_cons,keys_eq t]; exact congrArg (·::_) h.1
theorem Cy {α:Type} (key:α->eG) (l:List α):j6 key l↔j6 (fun x:eG=>x) (l.map key):=by
 unfold j6;rw [List.pairwise_map]
end Go.Proofs.YtkcfgbddlpomgaaGreat.Av
