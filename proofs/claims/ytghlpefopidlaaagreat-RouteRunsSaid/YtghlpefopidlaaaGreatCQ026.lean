/-
  slices.BinarySearch . Conditions as told.
-/
import Derived.Test.YtghlpefopidlaaaGreatCQ018
import Derived.Test.YtghlpefopidlaaaGreatCQ019
import Derived.Test.YtghlpefopidlaaaGreatCQ025
import Derived.Laws.IdiomCopy
set_option maxRecDepth 100000
set_option maxHeartbeats 64000000
open _root_.Bool renaming false->aL
open _root_.Go renaming World->aj,Value->aH,TypeId->aN,Addr->aY,Calls->aZ
open Go.Builtin renaming zeroCells->aD,clear_->aS
open Go.Ending renaming returned->aI
open Go.IntKind renaming i64->Z
open Go.Lib renaming hid->O
open Go.Obj renaming cells->aG
open Go.Proofs.Tryz renaming prog->aJ,results8->aU,func34->aX
open Go.Value renaming slice->J,int->U,pointer->aC,bool->aO,agg->bg
open _root_.List renaming getElem?_toArray->ay,getElem?_cons_zero->aA,getElem?_cons_succ->aB,take_take->aP,map_cons->aT,mem_map->aV,take->bf
open _root_.Nat renaming lt_of_lt_of_le->ak,le_trans->au,le_refl->aK,le_of_lt->aM,mul_le_mul_right->aQ,min_eq_left->aR,add_zero->aW
open _root_.Option renaming none->ah,some->aF
namespace Go.Proofs.YtghlpefopidlaaaGreat
namespace Av
open Go.RowKit Go.Sort Rw YtghlpefopidlaaaGreat.Nm Pr Bk
def mY (near:List Int) (f:Int):Bool:=decide (f∈near) || f == -1
theorem Bv (l:List dQ) (y:dQ):dM mF l y<=l.length:=by
 rw [fU];exact au (kr _ _) (by simp)
theorem EB (B:Nat) (v:Sl) (l:List dQ) (x:dQ) (w:aj) (ho:Own EJ w B (dH v) l) (hr:gQ mF l) (hl:l.length<=900) (hB:B<=w.heap.size) :
  aZ aJ 37 #[dH v,oJ x,.func (.func 38) #[] #[]] w fun e w'=>(∃ v':Sl,e=aI (dH v')/\Own EJ w' B (dH v') (eX l (dM mF l (mF x)) x))/\Below B w w'/\(∀ j,j<w.heap.size->aF j≠(dH v).ownBlock->w'.heap[j]?=w.heap[j]?):=by
 have h0:=iM w (aG #[U Z x.1,U Z x.2] 23);have X:=dG w #[U Z x.1,U Z x.2] 23;have C:=O (H9 (dH v) l x _ ((Row.dx ho).on h0) hr hl);obtain⟨ks,hks⟩:∃ k,k=dM mF l (mF x):=⟨_,rfl⟩;have KL:ks<=l.length:=by rw [hks]; exact Bv _ _
 rw [<- hks] at C;rw [<- hks];generalize eY mF l (mF x)=th at *;have OW:=O (Bk.dw ho h0);have HV:=O (show (dH v).ownBlock≠ah->∃ g,(dH v).ownBlock=aF g/\g<w.heap.size from fun hne=>by
  cases hb:(dH v).ownBlock with
  | none=>exact absurd hb hne
  | some g=>exact⟨g,rfl,(ho.lt g hb).2⟩)
 have B0:=O ((Below.refl B w).alloc hB (aG #[U Z x.1,U Z x.2] 23));have Qn:=O h0;have KK:=O KL;have LL:=O hl;have BB:=O hB;clear h0 ho hr hl hB hks KL;obtain⟨c1,c2⟩:=x;obtain⟨vo,vn,vc⟩:=v;simp only at C X;obtain⟨x0,x1⟩:=X.cs2;have XX:=O X;clear X;go_enter Tryz.func37,Tryz.ntmps37;go_wp2_with fail;have W1:=O (show w.heap.size<=(w.alloc (aG #[U Z c1,U Z c2] 23)).heap.size by simp);generalize w.alloc (aG #[U Z c1,U Z c2] 23)=W at *;refine C.out.mono ?_;rintro e w1 ⟨rfl,hb⟩;have Y:=XX.out.on hb;obtain⟨y0,y1⟩:=Y.cs2;have O1:=O (Bk.dw OW.out hb);have B1:=O (B0.out.trans (hb.mono (au BB.out W1.out)));have BW:=O (fun j (hj:j<w.heap.size)=>(hb.block j (ak hj W1.out)).trans (Qn.out.block j hj));have S1:=O (au W1.out hb.size);clear C Y hb x0 x1;go_wp2_with fail;have hl:=LL.out;have NB:=iM w1 (aG #[U Z c1,U Z c2] 23);refine (wJ B _ l ks (c1,c2) w1.heap.size _ (Bk.dw O1.out NB) (dG w1 #[U Z c1,U Z c2] 23) ?_ KK.out (by omega) (au (au BB.out S1.out) NB.size)).mono ?_
 ·intro he;obtain⟨g,hg,hlt⟩:=HV.out (by rw [he]; simp);rw [he] at hg;have:=Option.some.inj hg;have:=S1.out;omega
 rintro e w2 ⟨v',rfl,ho,hb,hoth⟩;obtain⟨a1,a2,hv⟩:=(Row.dx ho).len;have Q:=O (show (∃ v'':Sl,aI v'=aI (dH v'')/\Own EJ w2 B (dH v'') (eX l ks (c1,c2)))/\Below B w w2/\(∀ j,j<w.heap.size->aF j≠(dH (vo,vn,vc)).ownBlock->w2.heap[j]?=w.heap[j]?) from ⟨⟨(a1,_,a2),by rw [hv],by subst hv; simpa [eX] using ho⟩,(B1.out.trans (NB.mono (au BB.out S1.out))).trans hb,fun j hj hne=>(hoth j (ak (ak hj S1.out) NB.size) hne).trans ((NB.block j (ak hj S1.out)).trans (BW.out j hj))⟩);clear ho hb hv hl NB;go_wp2;go_ret;exact Q.out
theorem Bw (l:List iQ) (y:dQ):dM kM l y<=l.length:=by
 rw [fU];exact au (kr _ _) (by simp)
theorem EG (B:Nat) (v:Sl) (l:List iQ) (x:iQ) (w:aj) (ho:Own ED w B (dH v) l) (hr:gQ kM l) (hl:l.length<=900) (hB:B<=w.heap.size) :
  aZ aJ 34 #[dH v,jD x,.func (.func 36) #[] #[]] w fun e w'=>(∃ v':Sl,e=aI (dH v')/\Own ED w' B (dH v') (eX l (dM kM l (kM x)) x))/\Below B w w'/\(∀ j,j<w.heap.size->aF j≠(dH v).ownBlock->w'.heap[j]?=w.heap[j]?):=by
 have h0:=iM w (aG #[U Z x.1,U Z x.2.1,dH x.2.2.1,U Z x.2.2.2] 36);have X:=dG w #[U Z x.1,U Z x.2.1,dH x.2.2.1,U Z x.2.2.2] 36;have C:=O (Ia (dH v) l x _ ((Row.dx ho).on h0) hr hl);obtain⟨ks,hks⟩:∃ k,k=dM kM l (kM x):=⟨_,rfl⟩;have KL:ks<=l.length:=by rw [hks]; exact Bw _ _
 have e1:kM x=(x.1,x.2.1):=rfl;rw [<- e1] at C;rw [<- hks] at C;rw [<- hks];generalize eY kM l (kM x)=th at *;have OW:=O (Bk.dw ho h0);have HV:=O (show (dH v).ownBlock≠ah->∃ g,(dH v).ownBlock=aF g/\g<w.heap.size from fun hne=>by
  cases hb:(dH v).ownBlock with
  | none=>exact absurd hb hne
  | some g=>exact⟨g,rfl,(ho.lt g hb).2⟩)
 have B0:=O ((Below.refl B w).alloc hB (aG #[U Z x.1,U Z x.2.1,dH x.2.2.1,U Z x.2.2.2] 36));have Qn:=O h0;have KK:=O KL;have LL:=O hl;have BB:=O hB;clear h0 ho hr hl hB hks KL;obtain⟨c1,c2,⟨c3,c4,c5⟩,c6⟩:=x;obtain⟨vo,vn,vc⟩:=v;simp only at C X;obtain⟨x0,x1,x2,x3⟩:=X.zD;have XX:=O X;clear X;go_enter aX,Tryz.ntmps34;go_wp2_with fail;have W1:=O (show w.heap.size<=(w.alloc (aG #[U Z c1,U Z c2,J c3 c4 c5,U Z c6] 36)).heap.size by simp);generalize w.alloc (aG #[U Z c1,U Z c2,J c3 c4 c5,U Z c6] 36)=W at *;refine C.out.mono ?_;rintro e w1 ⟨rfl,hb⟩;have Y:=XX.out.on hb;obtain⟨y0,y1,y2,y3⟩:=Y.zD;have O1:=O (Bk.dw OW.out hb);have B1:=O (B0.out.trans (hb.mono (au BB.out W1.out)));have BW:=O (fun j (hj:j<w.heap.size)=>(hb.block j (ak hj W1.out)).trans (Qn.out.block j hj));have S1:=O (au W1.out hb.size);clear C Y hb x0 x1 x2 x3;go_wp2_with fail;have hl:=LL.out;have NB:=iM w1 (aG #[U Z c1,U Z c2,J c3 c4 c5,U Z c6] 36);refine (wR B _ l ks (c1,c2,(c3,c4,c5),c6) w1.heap.size _ (Bk.dw O1.out NB) (dG w1 #[U Z c1,U Z c2,J c3 c4 c5,U Z c6] 36) ?_ KK.out (by omega) (au (au BB.out S1.out) NB.size)).mono ?_
 ·intro he;obtain⟨g,hg,hlt⟩:=HV.out (by rw [he]; simp);rw [he] at hg;have:=Option.some.inj hg;have:=S1.out;omega
 rintro e w2 ⟨v',rfl,ho,hb,hoth⟩;obtain⟨a1,a2,hv⟩:=(Row.dx ho).len;have Q:=O (show (∃ v'':Sl,aI v'=aI (dH v'')/\Own ED w2 B (dH v'') (eX l ks (c1,c2,(c3,c4,c5),c6)))/\Below B w w2/\(∀ j,j<w.heap.size->aF j≠(dH (vo,vn,vc)).ownBlock->w2.heap[j]?=w.heap[j]?) from ⟨⟨(a1,_,a2),by rw [hv],by subst hv; simpa [eX] using ho⟩,(B1.out.trans (NB.mono (au BB.out S1.out))).trans hb,fun j hj hne=>(hoth j (ak (ak hj S1.out) NB.size) hne).trans ((NB.block j (ak hj S1.out)).trans (BW.out j hj))⟩);clear ho hb hv hl NB;go_wp2;go_ret;exact Q.out
def Off (ob:Option Nat) (W x:aj):Prop:=(∀ j,j<W.heap.size->aF j≠ob->x.heap[j]?=W.heap[j]?)/\W.heap.size<=x.heap.size
def Tag (ob:Option Nat) (W:aj) (t:aN):Prop:=∀ g,ob=aF g->∃ d,cZ W g d t
theorem fH {α:Type} {E:Ek α} {W:aj} {B:Nat} {v:aH} {l:List α} (h:Own E W B v l):Tag v.ownBlock W E.t:=by
 intro g hg;rcases dY h with⟨rfl,_⟩|⟨g',c',cur,rfl,_,h2,_⟩
 ·cases hg
 ·obtain rfl:g'=g:=by simpa [Value.ownBlock] using hg
  exact⟨cur,h2⟩
theorem Off.own {α:Type} {E:Ek α} {ob:Option Nat} {W x:aj} {B:Nat} {v:aH} {l:List α} {t:aN} (h:Off ob W x) (ho:Own E W B v l) (hg:Tag ob W t) (hne:(E.t == t)=aL):Own E x B v l:=by
 refine⟨ho.1,?_⟩;rcases ho.2 with h2|⟨g',cap,cur,h1,h2,h3,h4⟩
 ·exact Or.inl h2
 ·refine Or.inr ⟨g',cap,cur,h1,h2,?_,h4⟩;rw [h.1 g' (lt_of_heap h3) fun e=>by
   obtain⟨d,hd⟩:=hg g' e.symm;exact jU (show cZ W g' cur E.t from h3) hd hne rfl]
  exact h3
theorem Off.box {ob:Option Nat} {W x:aj} {b:Nat} {cs:Array aH} {s t:aN} (h:Off ob W x) (hb:cZ W b cs s) (hg:Tag ob W t) (hne:(s == t)=aL):cZ x b cs s:=(h.1 b hb.lt fun e=>by
 obtain⟨d,hd⟩:=hg b e.symm;exact jU hb hd hne rfl).trans hb
theorem PM.off {w0 wr x:aj} {B:Nat} {v:aH} {p:List C5} {ob:Option Nat} {t:aN} (h:PM w0 B wr v p) (hb:Off ob wr x) (hg:Tag ob wr t) (hne:(91 == t)=aL):PM w0 B x v p:=h.imp id fun h=>hb.own h hg hne
theorem xY.off {w0 wr x:aj} {B:Nat} {y:iQ} {a:Ad} {ob:Option Nat} {t:aN} (h:xY w0 B wr y a) (hb:Off ob wr x) (hg:Tag ob wr t) (hne:(91 == t)=aL):xY w0 B x y a:=⟨h.1,h.2.1,h.2.2.off hb hg hne⟩
theorem kL.off {w0 wr x:aj} {B:Nat} {y:iw} {a:En} {ob:Option Nat} {t:aN} (h:kL w0 B wr y a) (hb:Off ob wr x) (hg:Tag ob wr t) (hne:(91 == t)=aL):kL w0 B x y a:=⟨h.1,h.2.1,h.2.2.1,h.2.2.2.1,h.2.2.2.2.off hb hg hne⟩
theorem yG.off {w0 wr x:aj} {B:Nat} {y:jJ} {a:Ow} {ob:Option Nat} {t:aN} (h:yG w0 B wr y a) (hb:Off ob wr x) (hg:Tag ob wr t) (hne:(91 == t)=aL):yG w0 B x y a:=⟨h.1,h.2.off hb hg hne⟩
theorem Cp.Qo {w0 wr x:aj} {B:Nat} {b:Br} {nv av sv ev ov Ma:Sl} {al:List Ad} (h:Cp w0 B wr b nv av sv ev ov) (hb:Off (dH av).ownBlock wr x) (hx:∃ l,mV x B (dH Ma) l/\dV (xY w0 B x) l al):Cp w0 B x { b with dP:=al } nv Ma sv ev ov:=by
 obtain⟨l0,hl0,_⟩:=h.dP;have hg:=fH hl0;exact {
  near:=hb.own h.near hg (by decide)
  seen:=hb.own h.seen hg (by decide)
  dP:=hx
  ent:=by obtain⟨l,h1,h2⟩:=h.ent; exact⟨l,hb.own h1 hg (by decide),h2.mono fun _ _ h=>h.off hb hg (by decide)⟩
  own:=by obtain⟨l,h1,h2⟩:=h.own; exact⟨l,hb.own h1 hg (by decide),h2.mono fun _ _ h=>h.off hb hg (by decide)⟩ }
theorem Cp.Il {w0 wr x:aj} {B:Nat} {b:Br} {nv av sv ev ov ev':Sl} {el:List En} (h:Cp w0 B wr b nv av sv ev ov) (hb:Off (dH ev).ownBlock wr x) (hx:∃ l,iO x B (dH ev') l/\dV (kL w0 B x) l el):Cp w0 B x { b with ent:=el } nv av sv ev' ov:=by
 obtain⟨l0,hl0,_⟩:=h.ent;have hg:=fH hl0;exact {
  near:=hb.own h.near hg (by decide)
  seen:=hb.own h.seen hg (by decide)
  dP:=by obtain⟨l,h1,h2⟩:=h.dP; exact⟨l,hb.own h1 hg (by decide),h2.mono fun _ _ h=>h.off hb hg (by decide)⟩
  ent:=hx
  own:=by obtain⟨l,h1,h2⟩:=h.own; exact⟨l,hb.own h1 hg (by decide),h2.mono fun _ _ h=>h.off hb hg (by decide)⟩ }
theorem Cp.Qp {w0 wr x:aj} {B:Nat} {b:Br} {nv av sv ev ov Mc:Sl} {sl:List dQ} (h:Cp w0 B wr b nv av sv ev ov) (hb:Off (dH sv).ownBlock wr x) (hx:wm x B (dH Mc) sl):Cp w0 B x { b with seen:=sl } nv av Mc ev ov:=by
 have hg:=fH h.seen;exact {
  near:=hb.own h.near hg (by decide)
  seen:=hx
  dP:=by obtain⟨l,h1,h2⟩:=h.dP; exact⟨l,hb.own h1 hg (by decide),h2.mono fun _ _ h=>h.off hb hg (by decide)⟩
  ent:=by obtain⟨l,h1,h2⟩:=h.ent; exact⟨l,hb.own h1 hg (by decide),h2.mono fun _ _ h=>h.off hb hg (by decide)⟩
  own:=by obtain⟨l,h1,h2⟩:=h.own; exact⟨l,hb.own h1 hg (by decide),h2.mono fun _ _ h=>h.off hb hg (by decide)⟩ }
theorem nZ {α β:Type} {R:α->β->Prop} {l:List α} {m:List β} (h:dV R l m) (k:Nat) {a:α} {b:β} (hr:R a b):dV R (eX l k a) (eX m k b) :=
 ((h.take k).append (.cons hr .nil)).append (h.drop k)
theorem keys_eq {w0 wr:aj} {B:Nat}:∀ {l:List iQ} {al:List Ad},dV (xY w0 B wr) l al->l.map kM=al.map Ad.id
 | _,_,.nil=>rfl
 | _,_,.cons h t=>by rw [aT,aT,keys_eq t]; exact congrArg (·::_) h.1
theorem tJ {α:Type} (key:α->dQ) (l:List α):gQ key l↔gQ (fun x:dQ=>x) (l.map key):=by
 unfold gQ;rw [List.pairwise_map]
theorem og {g:Nat} {t:aN}:∀ (vs:List aH) (o:Nat) (w:aj) (cur:Array aH),cZ w g cur t->∃ cur',cZ (w.setCells g o vs) g cur' t/\cur'.size=cur.size/\cur'.toList.take o=cur.toList.take o
 | [],o,w,cur,h=>⟨cur,h,rfl,rfl⟩
 | v::r,o,w,cur,h=>by
  obtain⟨cur',h1,h2,h3⟩:=og r (o+1) (w.setCell ⟨g,o,ah⟩ v) _ (dL (k:=o) h v);refine⟨cur',h1,by rw [h2]; simp,?_⟩;have h4:=congrArg (bf o) h3;rw [aP,aP,aR (by omega)] at h4;rw [h4,Array.toList_setIfInBounds,List.take_set_of_le (aK _)]
theorem oh (g:Nat):∀ (vs:List aH) (o:Nat) (w:aj),But g w (w.setCells g o vs)
 | [],_,_w=>⟨fun _ _ _=>rfl,aK _⟩
 | v::r,o,w=>(dF w g o v).trans (oh g r (o+1) _)
theorem below_setCells {B g:Nat} (hB:B<=g):∀ (vs:List aH) (o:Nat) (W w:aj),Below B W w->Below B W (w.setCells g o vs)
 | [],_,_,_,h=>h
 | v::r,o,W,_w,h=>below_setCells hB r (o+1) W _ (h.setCell (p:=⟨g,o,ah⟩) hB v)
theorem tK {α:Type} {E:Ek α} (K:E.Ok) (hz:∀ v∈E.z.cells.toList,v.oneCell'=true) {W:aj} {B g n cap i:Nat} {L:List α} (h:Own E W B (J (aF ⟨g,0,ah⟩) n cap) L) (hi:i<n) (ty:aN) :
  ∃ W',(aS #[E.ts] ty #[J (aF ⟨g,i * E.n,ah⟩) (n-i) (cap-i)]).run aJ W=.ok (.tuple #[]) W'/\Own E W' B (J (aF ⟨g,0,ah⟩) i cap) (L.take i)/\But g W W'/\(∀ B' W0,B'<=g->Below B' W0 W->Below B' W0 W'):=by
 have hln:=dZ h;rcases dY h with⟨h1,_⟩|⟨g',cap',cur,h1,h2,h3,h4,h5,h6,h7⟩
 ·cases h1
 ·obtain⟨rfl,_,rfl⟩:g=g'/\n=L.length/\cap=cap':=by simpa using h1
  have hzs:(aD E.z.cells (n-i)).toList.length=(n-i) * E.n:=by simp [aD,K.zs]
  have h10:i * E.n+(n-i) * E.n=n * E.n:=by rw [<- Nat.add_mul,Nat.add_sub_cancel' (aM hi)]
  have h11:n * E.n<=cap * E.n:=aQ _ (by omega);have hone:∀ v∈(aD E.z.cells (n-i)).toList,v.oneCell'=true:=by
   intro v hv;simp only [aD,Array.toList_map,aV] at hv;obtain⟨j,_,rfl⟩:=hv;have hp:=K.pos;have hlt:j % E.z.cells.size<E.z.cells.size:=Nat.mod_lt _ (by rw [K.zs]; exact hp);refine hz _ ?_;rw [getElem!_pos E.z.cells (j % E.z.cells.size) hlt,Array.mem_toList_iff];exact Array.getElem_mem hlt
  have hst:=run_storeCells_cells (P:=aJ) g (i * E.n) (aD E.z.cells (n-i)).toList 0 W (by
   intro j hj;rw [hzs] at hj;rw [aW,h3.cell];have:i * E.n+j<cur.size:=by rw [h6]; omega
   simp [this]) (fun j _=>h3.fr _) hone
  rw [aW] at hst;obtain⟨ii,i1,i2,i3,i4⟩:=K.info;obtain⟨cur',c1,c2,c3⟩:=og (aD E.z.cells (n-i)).toList (i * E.n) W cur h3;refine⟨W.setCells g (i * E.n) (aD E.z.cells (n-i)).toList,?_,?_,oh _ _ _ _,fun B' W0 hB hb=>below_setCells hB _ _ _ _ hb⟩
  ·obtain⟨m,hm⟩:∃ m,n-i=m+1:=⟨n-i-1,by omega⟩;rw [hm] at hst ⊢;have hv:∀ w,(zeroValue E.t).run aJ w=.ok E.z w:=fun w=>by simp [go_sem,zeroValue,typeInfo,i1,i2]
   simp [aS,run_underlying K.hu,hv,hst]
  ·refine jf K (by rw [List.length_take]; omega) h2 c1 (by omega) h5 (by rw [c2]; exact h6) ?_;rw [c3];have h8:=congrArg (bf (i * E.n)) h7;rw [aP,jy K,aR (by rw [<- hln] at hi; exact aQ _ (aM hi))] at h8;exact h8
theorem Bz {α:Type} {key:α->dQ} {l:List α} {x:dQ} (h:eU (l.map key) x=-1):∀ (j:Nat) (y:α),l[j]?=aF y->key y≠x:=by
 intro j y hj hy;have h1:=wF (l.map key) x;rw [h] at h1;have:x∈l.map key:=aV.2 ⟨y,List.mem_of_getElem? hj,hy⟩;simp [this] at h1
theorem tL:∀ {l:List dQ} {x:dQ} {k:Nat},eU l x=k->l[k]?=aF x/\∀ (j:Nat) (y:dQ),j<k->l[j]?=aF y->y≠x
 | [],x,k,h=>by simp [eU] at h <;> omega
 | a::l,x,k,h=>by
  unfold eU at h;by_cases hax:a=x
  ·rw [if_pos hax] at h;obtain rfl:k=0:=by omega
   exact⟨by simpa using hax,fun j y hj=>by omega⟩
  ·rw [if_neg hax] at h;by_cases h2:eU l x=-1
   ·rw [if_pos h2] at h; omega
   ·rw [if_neg h2] at h;cases k with
    | zero=>have:=nU l x; omega
    | succ k =>
     obtain⟨h3,h4⟩:=tL (l:=l) (x:=x) (k:=k) (by omega);refine⟨by simpa using h3,fun j y hj hy=>?_⟩;cases j with
     | zero =>
      obtain rfl:a=y:=by simpa using hy
      exact hax
     | succ j=>exact h4 j y (by omega) (by simpa using hy)
def zT (B:Nat) (b1 _b2:Nat) (_me:Int) (_z1:aH) (o2:Option aY) (n2 c2:Nat) (_z3 _z4 _z5:aH) (y1 y2:Int) (yo:Option aY) (yn yc:Nat) (y4:Int) (p:List C5) (i:Nat) (v:aH) (x:aj):Prop :=
 match i with
 | 0=>v=aC (aF ⟨b1,2,ah⟩)
 | 1=>v=J o2 n2 c2
 | 2=>v=bg #[U Z y1,U Z y2,J yo yn yc,U Z y4]
 | 3=>∃ s:Sl,v=jD (y1,y2,s,y4)/\fV x B (dH s) p
 | _=>True
noncomputable def Js:Code:=((Tryz.f8.body.bind (eu 4)).getD .skip)
theorem EH (B:Nat) (b1 b2:Nat) (me:Int) (z1:aH) (o2:Option aY) (n2 c2:Nat) (z3 z4 z5:aH) (y1 y2:Int) (yo:Option aY) (yn yc:Nat) (y4:Int) (p:List C5) (i:Nat) (v:aH) (x x':aj) (h:zT B b1 b2 me z1 o2 n2 c2 z3 z4 z5 y1 y2 yo yn yc y4 p i v x) (hb:Below x.heap.size x x'):zT B b1 b2 me z1 o2 n2 c2 z3 z4 z5 y1 y2 yo yn yc y4 p i v x':=by
 by_cases hi:i<4
 ·rcases (by omega:i=0\/i=1\/i=2\/i=3) with rfl|rfl|rfl|rfl
  ·exact h
  ·exact h
  ·exact h
  ·obtain⟨s,h1,h2⟩:=h; exact⟨s,h1,Bk.dw h2 hb⟩
 ·unfold zT
  split <;> first | omega | trivial
theorem Qq (Q:Exit->Act->aj->Prop) (W:aj) (B0:Nat) (l:List iQ) (b1 b2:Nat) (me:Int) (z1:aH) (o2:Option aY) (n2 c2:Nat) (z3 z4 z5:aH) (y1 y2:Int) (yo:Option aY) (yn yc:Nat) (y4:Int) (p:List C5) (u0 u1 u4 u5 u6 u7 u8 u9 u10 u11 u12 u13 u14 u15 u16 u17 u18 u19 u20 u21 u22 u23 u24 u25:aH)
  (h1:cZ W b1 #[U Z me,z1,J o2 n2 c2,z3,z4,z5] 30) (h2:cZ W b2 #[U Z y1,U Z y2,J yo yn yc,U Z y4] 36) (ho:mV W B0 (J o2 n2 c2) l) (hr:gQ kM l) (hl:l.length<=900) (hB:B0<=W.heap.size) (hb0:b1<B0) (hp:fI W (J yo yn yc) p) (lp:p.length<=900)
  (hQ:∀ (w1:aj) (v13 v14 v15 v16 v17 v18:aH) (s1:Option aY) (s2 s3:Nat) (t1:Option aY) (t2 t3:Nat),cZ w1 b1 #[U Z me,z1,J o2 n2 c2,z3,z4,z5] 30->mV w1 B0 (J t1 t2 t3) (eX l (dM kM l (y1,y2)) (y1,y2,(s1,s2,s3),y4))->fV w1 W.heap.size (J s1 s2 s3) p->Off (dH (o2,n2,c2)).ownBlock W w1->Below B0 W w1->Q .normal ⟨(u0::u1::aC (aF ⟨b1,0,ah⟩)::aC (aF ⟨b2,0,ah⟩)::u4::u5::u6::u7::u8::u9::u10::u11::u12::v13::v14::v15::v16::v17::v18::u19::u20::u21::u22::u23::u24::u25::[]).toArray,[]⟩ (w1.setCell ⟨b1,2,ah⟩ (J t1 t2 t3))) :
  Code.wp aJ Js Q ⟨(u0::u1::aC (aF ⟨b1,0,ah⟩)::aC (aF ⟨b2,0,ah⟩)::u4::u5::u6::u7::u8::u9::u10::u11::u12::u13::u14::u15::u16::u17::u18::u19::u20::u21::u22::u23::u24::u25::[]).toArray,[]⟩ W:=by
 have HQ:=O hQ;have H1:=O h1;have H2:=O h2;have HO:=O ho;have HR:=O hr;have HL:=O hl;have HB:=O hB;have H0:=O hb0;have HP:=O hp;have LP:=O lp;clear hQ h1 h2 ho hr hl hB hb0 hp lp;have mE:=EH W.heap.size b1 b2 me z1 o2 n2 c2 z3 z4 z5 y1 y2 yo yn yc y4 p;unfold Js
 conv=>arg 2; whnf
 have nd:∀ j,(j<13\/17<=j)->∀ i,i<4->(fun i=>13+i) i≠j:=by
  intro j hj i hi h;simp only at h;omega
 refine Rg.gX 7 4 (fun i=>13+i) (fun _=>4) (zT W.heap.size b1 b2 me z1 o2 n2 c2 z3 z4 z5 y1 y2 yo yn yc y4 p) (by kernel_rfl) (by kernel_rfl) rfl (by decide) (fun i j _ _ h=>by have h2:13+i=13+j:=h; omega) (fun i hi=>by show 13+i<26; omega) ?_ (fun _=>Rg.kK 14 (by kernel_rfl)) ?_ ?_
 ·intro i o hi ho a x D hnd hc hD hb seen K hK;clear HQ;rcases (by omega:i=0\/i=1\/i=2\/i=3) with rfl|rfl|rfl|rfl
  ·cases ho;have e2:a.eval (.tmp 2)=aC (aF ⟨b1,0,ah⟩):=seen.kp 2 _ (nd 2 (by omega)) rfl;exact Rg.cO rfl rfl (Rg.dR a.eval _ 30 (.tmp 2) 2 rfl (by rw [e2]; simp [go_sem])) (hK _ _ rfl (Below.refl _ _) fun _ _ _ _ _ _ _ h=>h)
  ·cases ho;have e13:a.eval (.tmp 13)=aC (aF ⟨b1,2,ah⟩):=seen.at_ ⟨0,.data⟩ (by simp) rfl (Or.inr (by decide));have y2:=(H1.out.on hb).cell 2;simp only [ay,aA,aB] at y2;exact Rg.cO rfl rfl (Rg.dX a.eval _ 25 (.tmp 13) rfl (by rw [e13]; simp [go_sem,y2])) (hK _ _ rfl (Below.refl _ _) fun _ _ _ _ _ _ _ h=>h)
  ·cases ho;have e3:a.eval (.tmp 3)=aC (aF ⟨b2,0,ah⟩):=seen.kp 3 _ (nd 3 (by omega)) rfl;obtain⟨y0,y1,y2,y3⟩:=(H2.out.on hb).zD;exact Rg.cO rfl rfl (Rg.dX a.eval _ 36 (.tmp 3) rfl (by rw [e3]; simp [go_sem,y0,y1,y2,y3])) (hK _ _ rfl (Below.refl _ _) fun _ _ _ _ _ _ _ h=>h)
  ·cases ho;have e15:a.eval (.tmp 15)=bg #[U Z y1,U Z y2,J yo yn yc,U Z y4]:=seen.at_ ⟨2,.data⟩ (by simp) rfl (Or.inr (by decide));exact Rg.fO rfl rfl (Rw.gq a.eval _ (.tmp 15) 36 35 rfl e15 rfl _ (fu Tryz.func35 rfl rfl _ _)) (qI (y1,y2,(yo,yn,yc),y4) p x (HP.out.on hb) LP.out) fun e w1 h=>by
    obtain⟨⟨s,rfl,h1⟩,h3⟩:=h;exact⟨_,rfl,hK _ _ ⟨s,rfl,dn h1 hb.size⟩ (h3.mono hb.size) fun j u hj _ _ _ hne h=>mE j u _ _ h h3⟩
 ·intro kk o h1 h2 ho;rcases (by omega:kk=5\/kk=6) with rfl|rfl
  ·cases ho;exact⟨⟨4,.phase⟩,by simp,rfl,rfl⟩
  ·cases ho;exact⟨⟨5,.data⟩,by simp,rfl,rfl⟩
 ·intro a w' df sz kp ⟨vs,hv⟩ hb;have sz':a.tmps.size=26:=sz;have g2:a.tmps[2]?=aF (aC (aF ⟨b1,0,ah⟩)):=(kp 2 (nd 2 (by omega))).trans rfl;have g14:a.tmps[14]?=aF (J o2 n2 c2):=by
   have h:vs 1=J o2 n2 c2:=(hv 1 (by omega)).2 (by decide);rw [<- h];exact (hv 1 (by omega)).1
  obtain⟨⟨s1,s2,s3⟩,hs,hc⟩:=(hv 3 (by omega)).2 (by decide);have g16:a.tmps[16]?=aF (jD (y1,y2,(s1,s2,s3),y4)):=((hv 3 (by omega)).1).trans (congrArg aF hs);have B1:=H1.out.on hb;show Rg.fT _ _ _ 3 4 a w';simp only [Rg.fT];refine Rg.fO rfl rfl (oQ a.eval _ (.tmp 14) (.tmp 16) (.func 36) 25 36 79 34 rfl (Rg.dD g14) (Rg.dD g16) rfl rfl _ (fu aX rfl rfl _ _)) (EG B0 (o2,n2,c2) l (y1,y2,(s1,s2,s3),y4) w' (Bk.dw HO.out hb) HR.out HL.out (au HB.out hb.size)) fun e w1 h=>?_;obtain⟨⟨⟨t1,t2,t3⟩,rfl,hown⟩,hbel,hoth⟩:=h;refine⟨_,rfl,?_⟩;have Qr:(a.put (aF 17) (J t1 t2 t3)).tmps[17]?=aF (J t1 t2 t3):=by simp [Act.put,sz']
  show Go.wpOp _ _ _ 5 _ (a.put (aF 17) (J t1 t2 t3)) _;refine Rg.cO rfl rfl (Rg.dR _ _ 30 (.tmp 2) 2 rfl (v:=aC (aF ⟨b1,2,ah⟩)) (by rw [Rg.dD ((Rg.get_put _ 17 _ 2 (by decide)).trans g2)]; simp [go_sem])) ?_;have Qs:((a.put (aF 17) (J t1 t2 t3)).put (aF 18) (aC (aF ⟨b1,2,ah⟩))).tmps[18]?=aF (aC (aF ⟨b1,2,ah⟩)):=by simp [Act.put,sz']
  show Go.wpOp _ _ _ 6 _ ((a.put (aF 17) (J t1 t2 t3)).put (aF 18) (aC (aF ⟨b1,2,ah⟩))) _;have B2:cZ w1 b1 _ _:=(hbel.block b1 H0.out).trans B1;have cx:=B2.cell 2;have fx:=B2.fr 2;simp only [ay,aA,aB] at cx;refine Rg.fM 25 (.tmp 18) (.tmp 17) rfl rfl rfl rfl (Rg.dD Qs) (Rg.dD ((Rg.get_put _ 18 _ 17 (by decide)).trans Qr)) (w':=w1.setCell ⟨b1,2,ah⟩ (J t1 t2 t3)) (by simp [go_sem,cx,fx]) ?_;have Tp:Off (dH (o2,n2,c2)).ownBlock w' w1:=⟨hoth,hbel.size⟩;have Tq:Off (dH (o2,n2,c2)).ownBlock W w1:=⟨fun j hj hne=>(hoth j (ak hj hb.size) hne).trans (hb.block j hj),au hb.size hbel.size⟩;have uY:∀ j,(j<13\/19<=j)->((a.put (aF 17) (J t1 t2 t3)).put (aF 18) (aC (aF ⟨b1,2,ah⟩))).tmps[j]?=(u0::u1::aC (aF ⟨b1,0,ah⟩)::aC (aF ⟨b2,0,ah⟩)::u4::u5::u6::u7::u8::u9::u10::u11::u12::u13::u14::u15::u16::u17::u18::u19::u20::u21::u22::u23::u24::u25::[])[j]?:=fun j hj=>(Rg.get_put _ 18 _ j (by omega)).trans ((Rg.get_put _ 17 _ j (by omega)).trans ((kp j (nd j (by omega))).trans ay));obtain⟨mid,hmid,hfr⟩:=Rg.gL (a:=(a.put (aF 17) (J t1 t2 t3)).put (aF 18) (aC (aF ⟨b1,2,ah⟩))) 13 6 df (by simp [Rg.size_put,sz']) (by simp) uY;show Q .normal ((a.put (aF 17) (J t1 t2 t3)).put (aF 18) (aC (aF ⟨b1,2,ah⟩))) _;rw [hfr]
  match mid,hmid with
  | [v13,v14,v15,v16,v17,v18],_ =>
   exact HQ.out w1 _ _ _ _ _ _ s1 s2 s3 t1 t2 t3 B2 hown (Tp.own hc (fH (Bk.dw HO.out hb)) (by decide)) Tq ((hb.mono HB.out).trans hbel)
abbrev wT (l:List Ad):Prop:=gQ Ad.id l
abbrev zU (l:List dQ):Prop:=gQ (fun x:dQ=>x) l
def gT (W:aj) (nv:Sl) (l:List Int):Prop:=∃ B,qB W B (dH nv) l
theorem gT.on {W W':aj} {nv:Sl} {l:List Int} (h:gT W nv l) (hb:Below W.heap.size W W'):gT W' nv l:=by obtain⟨B,h⟩:=h; exact⟨B,Bk.dw h hb⟩
def EK (W:aj) (P:Prop) (r:Br×Bool) (e:Ending) (w':aj):Prop:=(∃ nv av sv ev ov:Sl,e=aI (.tuple #[nS r.1.me nv av sv ev ov,aO r.2])/\ko w' r.1 nv av sv ev ov/\(P->gT w' nv r.1.near))/\Below W.heap.size W w'
def iD (W:aj) (b:Br) (nv av sv ev ov:Sl):Prop:=∃ (V:aj) (B:Nat),Cp (vw V) B W b nv av sv ev ov
theorem iD.on {W W':aj} {b:Br} {nv av sv ev ov:Sl} (h:iD W b nv av sv ev ov) (hb:Below W.heap.size W W'):iD W' b nv av sv ev ov:=by
 obtain⟨V,B,h⟩:=h;exact⟨V,B,h.grow hb⟩
theorem Cp.Md {V wr:aj} {B:Nat} {b:Br} {nv av sv ev ov:Sl} (h:Cp (vw V) B wr b nv av sv ev ov):ko wr b nv av sv ev ov where
 near:=Row.dx h.near
 dP:=by obtain⟨l,h1,h2⟩:=h.dP; exact⟨l,Row.dx h1,h2.mono fun _ _ q=>⟨q.1,q.2.1,q.2.2.elim uU Row.dx⟩⟩
 seen:=Row.dx h.seen
 ent:=by obtain⟨l,h1,h2⟩:=h.ent; exact⟨l,Row.dx h1,h2.mono fun _ _ q=>⟨q.1,q.2.1,q.2.2.1,q.2.2.2.1,q.2.2.2.2.elim uU Row.dx⟩⟩
 own:=by obtain⟨l,h1,h2⟩:=h.own; exact⟨l,Row.dx h1,h2.mono fun _ _ q=>⟨q.1,q.2.elim uU Row.dx⟩⟩
theorem iD.br {W:aj} {b:Br} {nv av sv ev ov:Sl} (h:iD W b nv av sv ev ov):ko W b nv av sv ev ov:=by
 obtain⟨V,B,h⟩:=h;exact h.Md
theorem iD.no {W:aj} {b:Br} {nv av sv ev ov:Sl} (h:iD W b nv av sv ev ov):gT W nv b.near:=by
 obtain⟨V,B,h⟩:=h;exact⟨B,h.near⟩
theorem iD.lI {W W':aj} {b:Br} {nv av sv ev ov:Sl} (h:iD W b nv av sv ev ov) {g:Nat} {d:Array aH} {t:aN} (hb:But g W W') (hg:cZ W g d t) (h1:(3 == t)=aL) (h2:(23 == t)=aL) (h3:(36 == t)=aL) (h4:(67 == t)=aL) (h5:(88 == t)=aL) (h6:(91 == t)=aL):iD W' b nv av sv ev ov:=by
 obtain⟨V,B,h⟩:=h;exact⟨V,B,h.lI hb hg h1 h2 h3 h4 h5 h6⟩
def om (W:aj) (P R:Prop) (r:Br×Bool) (e:Ending) (w':aj):Prop:=(∃ nv av sv ev ov:Sl,e=aI (.tuple #[nS r.1.me nv av sv ev ov,aO r.2])/\ko w' r.1 nv av sv ev ov/\(P->gT w' nv r.1.near)/\(R\/r.2=true->iD w' r.1 nv av sv ev ov))/\Below W.heap.size W w'
theorem om.one {W:aj} {P R:Prop} {r:Br×Bool} {e:Ending} {w':aj} (h:om W P R r e w'):EK W P r e w':=by
 obtain⟨⟨a1,a2,a3,a4,a5,h1,h2,h3,_⟩,h5⟩:=h;exact⟨⟨a1,a2,a3,a4,a5,h1,h2,h3⟩,h5⟩
theorem BD {b:Br} {a:Ad} (h:a.id∈b.seen):mW b a=(b,aL):=by unfold mW; rw [if_pos h]
theorem yP {b:Br} {a:Ad} (h:¬ a.id∈b.seen):mW b a=({ b with seen:=eX b.seen (gy b.seen a.id) a.id,dP:=eX b.dP (gy (b.dP.map Ad.id) a.id) a },true):=by unfold mW; rw [if_neg h]
theorem BI (b:Br) (a:Ad) (nv av sv ev ov:Sl) (x:iQ) (w:aj) (h:ko w b nv av sv ev ov) (ha:uQ w x a) (hf:yw b) (hp:mG b) (hla:a.p.length<=900) (hr1:zU b.seen) (hr2:wT b.dP) :
  aZ aJ 8 #[nS b.me nv av sv ev ov,jD x] w (om w (gT w nv b.near) (iD w b nv av sv ev ov) (mW b a)):=by
 obtain⟨no,nn,nc⟩:=nv;obtain⟨ao,an,ac⟩:=av;obtain⟨so,sn,sc⟩:=sv;obtain⟨eo,en,ec⟩:=ev;obtain⟨oo,jF,oc⟩:=ov;obtain⟨y1,y2,⟨yo,yn,yc⟩,y4⟩:=x;obtain⟨h0,h1,h2⟩:=gP w #[U Z b.me,J no nn nc,J ao an ac,J so sn sc,J eo en ec,J oo jF oc] #[U Z y1,U Z y2,J yo yn yc,U Z y4] 30 36;have h3:=iM ((w.alloc (aG #[U Z b.me,J no nn nc,J ao an ac,J so sn sc,J eo en ec,J oo jF oc] 30)).alloc (aG #[U Z y1,U Z y2,J yo yn yc,U Z y4] 36)) (aG #[U Z 0,J ah 0 0,J ah 0 0,J ah 0 0,J ah 0 0,J ah 0 0] 30);have h4:=dG ((w.alloc (aG #[U Z b.me,J no nn nc,J ao an ac,J so sn sc,J eo en ec,J oo jF oc] 30)).alloc (aG #[U Z y1,U Z y2,J yo yn yc,U Z y4] 36)) #[U Z 0,J ah 0 0,J ah 0 0,J ah 0 0,J ah 0 0,J ah 0 0] 30;have hsz:((w.alloc (aG #[U Z b.me,J no nn nc,J ao an ac,J so sn sc,J eo en ec,J oo jF oc] 30)).alloc (aG #[U Z y1,U Z y2,J yo yn yc,U Z y4] 36)).heap.size=w.heap.size+1+1:=by simp
 rw [hsz] at h4;have BB:=O (h0.trans (h3.mono h0.size));have X1:=O (h1.on h3);have X2:=O (h2.on h3);have X3:=O h4;have HH:=O h;have HA:=O ha;have HF:=O hf;have HP:=O hp;have LA:=O hla;have R1:=O hr1;have R2:=O hr2;have ei:a.id=(y1,y2):=ha.1.symm;have SW:=O (Bg b.me (J no nn nc) (J ao an ac) (J eo en ec) (J oo jF oc) (so,sn,sc) b.seen (y1,y2) _ (h.seen.on BB.out));obtain⟨r,hr⟩:∃ r,decide ((y1,y2)∈b.seen)=r:=⟨_,rfl⟩;rw [hr] at SW;have HR:=O hr;have EI:=O ei;obtain⟨x0,x1,x2,x3,x4,x5⟩:=X1.out.fQ;obtain⟨d0,d1,d2,d3⟩:=X2.out.zD;obtain⟨z0,z1,z2,z3,z4,z5⟩:=X3.out.fQ;obtain⟨t0,t1,t2,t3,t4,t5⟩:=X3.out.mD;have zz:=X3.out.lt;clear h0 h1 h2 h3 h4 hsz h ha hf hp hla hr1 hr2 hr ei;go_enter Tryz.func8,Tryz.ntmps8;go_wp2_with fail;generalize ((w.alloc (aG #[U Z b.me,J no nn nc,J ao an ac,J so sn sc,J eo en ec,J oo jF oc] 30)).alloc (aG #[U Z y1,U Z y2,J yo yn yc,U Z y4] 36)).alloc (aG #[U Z 0,J ah 0 0,J ah 0 0,J ah 0 0,J ah 0 0,J ah 0 0] 30)=W at *;refine SW.out.mono ?_;rintro e1 w1 ⟨rfl,hb⟩;have B1:=O (BB.out.trans (hb.mono BB.out.size));have Y1:=X1.out.on hb;have Y2:=X2.out.on hb;have Y3:=X3.out.on hb;clear SW hb x0 x1 x2 x3 x4 x5 d0 d1 d2 d3 z0 z1 z2 z3 z4 z5 t0 t1 t2 t3 t4 t5 zz X1 X2 X3;obtain⟨x0,x1,x2,x3,x4,x5⟩:=Y1.fQ;obtain⟨z0,z1,z2,z3,z4,z5⟩:=Y3.fQ;obtain⟨t0,t1,t2,t3,t4,t5⟩:=Y3.mD;have zz:=Y3.lt;cases r
 ·have nin:¬ a.id∈b.seen:=by rw [EI.out]; exact of_decide_eq_false HR.out
  have LQ:=O (yP nin);have Z1:=O Y1;have Z2:=O Y2;have Z3:=O Y3;have L1:=O Y1.lt;have L3:=O (show w.heap.size+1<w1.heap.size from Y2.lt);clear z0 z1 z2 z3 z4 z5 t0 t1 t2 t3 t4 t5 zz nin;go_wp2_with fail;refine (jB b (no,nn,nc) (ao,an,ac) (so,sn,sc) (eo,en,ec) (oo,jF,oc) w w1 B1.out HH.out HF.out HP.out).mono ?_;rintro e2 w2 ⟨⟨⟨p1,q1,s1⟩,⟨p2,q2,s2⟩,⟨p3,q3,s3⟩,⟨p4,q4,s4⟩,⟨p5,q5,s5⟩,rfl,cp⟩,hb2⟩;have V1:=Z1.out.on hb2;have V2:=O (Z2.out.on hb2);have V3:=O (Z3.out.on hb2);clear x0 x1 x2 x3 x4 x5;obtain⟨x0,x1,x2,x3,x4,x5⟩:=V1.fQ;obtain⟨t0,t1,t2,t3,t4,t5⟩:=V1.mD;have zz:=V1.lt;have FB:=O (dK V1 (U Z b.me) (J p1 q1 s1) (J p2 q2 s2) (J p3 q3 s3) (J p4 q4 s4) (J p5 q5 s5));have FC:=O (cp.but (dU w2 w.heap.size (U Z b.me) (J p1 q1 s1) (J p2 q2 s2) (J p3 q3 s3) (J p4 q4 s4) (J p5 q5 s5)) V1);have FL:=O (dz (b:=w.heap.size) (B1.out.trans (hb2.mono B1.out.size)) (aK _) (U Z b.me) (J p1 q1 s1) (J p2 q2 s2) (J p3 q3 s3) (J p4 q4 s4) (J p5 q5 s5));have F2:=O ((dU w2 w.heap.size (U Z b.me) (J p1 q1 s1) (J p2 q2 s2) (J p3 q3 s3) (J p4 q4 s4) (J p5 q5 s5)).box V2.out (by omega));have F3:=O ((dU w2 w.heap.size (U Z b.me) (J p1 q1 s1) (J p2 q2 s2) (J p3 q3 s3) (J p4 q4 s4) (J p5 q5 s5)).box V3.out (by omega));have SZ:=O (show w1.heap.size<=(iy w2 w.heap.size (U Z b.me) (J p1 q1 s1) (J p2 q2 s2) (J p3 q3 s3) (J p4 q4 s4) (J p5 q5 s5)).heap.size by have:=hb2.size; simp; omega);have L2:=O (show w.heap.size<w1.heap.size from L1.out);clear V1 V2 V3 cp hb2 Z1 Z2 Z3 L1;go_upto_region 4 with fail;clear x0 x1 x2 x3 x4 x5 t0 t1 t2 t3 t4 t5 zz;unfold iy at FB FC FL F2 F3 SZ;generalize ((((((w2).setCell ⟨w.heap.size,0,ah⟩ (U Z b.me)).setCell ⟨w.heap.size,1,ah⟩ (J p1 q1 s1)).setCell ⟨w.heap.size,2,ah⟩ (J p2 q2 s2)).setCell ⟨w.heap.size,3,ah⟩ (J p3 q3 s3)).setCell ⟨w.heap.size,4,ah⟩ (J p4 q4 s4)).setCell ⟨w.heap.size,5,ah⟩ (J p5 q5 s5)=w3 at *;obtain⟨la,M8,KM⟩:=FC.out.dP;have rU:=O M8;have HL2:=O KM;have KE:=O (keys_eq KM);clear M8 KM;refine Qq _ w3 w1.heap.size la w.heap.size (w.heap.size+1) b.me (J p1 q1 s1) p2 q2 s2 (J p3 q3 s3) (J p4 q4 s4) (J p5 q5 s5) y1 y2 yo yn yc y4 a.p _ _ _ _ _ _ _ _ _ _ _ _ _ _ _ _ _ _ _ _ _ _ _ _ FB.out F2.out rU.out ?_ ?_ SZ.out L2.out (HA.out.2.2.on FL.out) LA.out ?_
  ·rw [tJ,KE.out,<- tJ]; exact R2.out
  ·rw [HL2.out.len]; exact HF.out.dP
  intro w4 v13 v14 v15 v16 v17 v18 s1' s2' s3' t1 t2 t3 hbx hown hc hoff hbel;have RV:=O (FC.out.Qo (Ma:=(t1,t2,t3)) (al:=eX b.dP (gy (b.dP.map Ad.id) a.id) a) hoff ⟨_,hown,by
   have hg:=fH rU.out;have h2:=HL2.out.mono fun _ _ q=>q.off hoff hg (by decide);have hk:dM kM la (y1,y2)=gy (b.dP.map Ad.id) a.id:=by rw [fU,KE.out,EI.out]
   rw [<- hk];exact nZ h2 _ ⟨HA.out.1,HA.out.2.1,Or.inr (dn hc SZ.out)⟩⟩)
  have G2:=O (show cZ w4 (w.heap.size+1) _ _ from (hbel.block _ L3.out).trans F2.out);have G3:=O (show cZ w4 (w.heap.size+1+1) _ _ from hoff.box F3.out (fH rU.out) (by decide));have G1:=O (show cZ (w4.setCell ⟨w.heap.size,2,ah⟩ (J t1 t2 t3)) w.heap.size #[U Z b.me,J p1 q1 s1,J t1 t2 t3,J p3 q3 s3,J p4 q4 s4,J p5 q5 s5] 30 by simpa using dL (k:=2) hbx (J t1 t2 t3));have Pj:=O (RV.out.but (dF w4 w.heap.size 2 (J t1 t2 t3)) hbx);have Qt:=O ((dF w4 w.heap.size 2 (J t1 t2 t3)).box G2.out (by omega));have RY:=O ((dF w4 w.heap.size 2 (J t1 t2 t3)).box G3.out (by omega));have GL:=O (show Below w.heap.size w (w4.setCell ⟨w.heap.size,2,ah⟩ (J t1 t2 t3)) from (FL.out.trans (hbel.mono (aM L2.out))).setCell (p:=⟨w.heap.size,2,ah⟩) (aK _) _);have GZ:=O (show w1.heap.size<=(w4.setCell ⟨w.heap.size,2,ah⟩ (J t1 t2 t3)).heap.size by have:=SZ.out; have:=hbel.size; simp; omega);clear hbx hown hc hoff hbel RV G2 G3 FB FC F2 F3 FL SZ rU HL2 KE;generalize w4.setCell ⟨w.heap.size,2,ah⟩ (J t1 t2 t3)=w5 at *;have x3:=G1.out.cell 3;have d1:=Qt.out.cell 1;have d0:=Qt.out.cell 0;simp only [ay,aA,aB] at x3 d0 d1;go_wp2_with fail;refine (EB w1.heap.size (p3,q3,s3) b.seen (y1,y2) w5 Pj.out.seen R1.out HF.out.seen GZ.out).mono ?_;rintro e3 w6 ⟨⟨⟨r1,r2,r3⟩,rfl,hown⟩,hbel,hoth⟩;have hoff:Off (dH (p3,q3,s3)).ownBlock w5 w6:=⟨hoth,hbel.size⟩;have RZ:=O (Pj.out.Qp (Mc:=(r1,r2,r3)) (sl:=eX b.seen (gy b.seen a.id) a.id) hoff (by
   have hk:dM mF b.seen (mF (y1,y2))=gy b.seen a.id:=by rw [fU,EI.out]; simp
   rw [<- hk,EI.out];exact hown))
  have hg:=fH Pj.out.seen;have K1:=hoff.box G1.out hg (by decide);have K3:=hoff.box RY.out hg (by decide);have KL:=GL.out.trans (hbel.mono (aM L2.out));have M1:=O (show cZ (w6.setCell ⟨w.heap.size,3,ah⟩ (J r1 r2 r3)) w.heap.size #[U Z b.me,J p1 q1 s1,J t1 t2 t3,J r1 r2 r3,J p4 q4 s4,J p5 q5 s5] 30 by simpa using dL (k:=3) K1 (J r1 r2 r3));have M3:=O ((dF w6 w.heap.size 3 (J r1 r2 r3)).box K3 (by omega));have MC:=O (RZ.out.but (dF w6 w.heap.size 3 (J r1 r2 r3)) K1);have ML:=O (show Below w.heap.size w (w6.setCell ⟨w.heap.size,3,ah⟩ (J r1 r2 r3)) from KL.setCell (p:=⟨w.heap.size,3,ah⟩) (aK _) _);clear x3 d0 d1;have x3:=K1.cell 3;have t3:=K1.fr 3;have zz:=K1.lt;simp only [ay,aA,aB] at x3;clear hown hbel hoth hoff hg K1 K3 KL RZ Pj G1 Qt RY GL GZ;go_upto_region 6 with fail;clear x3 t3 zz;generalize w6.setCell ⟨w.heap.size,3,ah⟩ (J r1 r2 r3)=w7 at *;have U1:=M1.out;have U3:=M3.out;obtain⟨x0,x1,x2,x3,x4,x5⟩:=U1.fQ;obtain⟨z0,z1,z2,z3,z4,z5⟩:=U3.fQ;obtain⟨f0,f1,f2,f3,f4,f5⟩:=U3.mD;have zz:=U3.lt;have FB:=O (dK U3 (U Z b.me) (J p1 q1 s1) (J t1 t2 t3) (J r1 r2 r3) (J p4 q4 s4) (J p5 q5 s5));have FC:=O (MC.out.but (dU w7 (w.heap.size+1+1) (U Z b.me) (J p1 q1 s1) (J t1 t2 t3) (J r1 r2 r3) (J p4 q4 s4) (J p5 q5 s5)) U3);have FL:=O (dz (b:=w.heap.size+1+1) ML.out (by omega) (U Z b.me) (J p1 q1 s1) (J t1 t2 t3) (J r1 r2 r3) (J p4 q4 s4) (J p5 q5 s5));clear U1 U3 M1 M3 MC ML;go_wp2_with fail;obtain⟨v0,v1,v2,v3,v4,v5⟩:=FB.out.fQ;refine bodyPost_ret (v:=.tuple #[bg #[U Z b.me,J p1 q1 s1,J t1 t2 t3,J r1 r2 r3,J p4 q4 s4,J p5 q5 s5],aO true]) (by simp [results,aU,go_sem,v0,v1,v2,v3,v4,v5]) rfl ?_;rw [LQ.out];exact⟨⟨(p1,q1,s1),(t1,t2,t3),(r1,r2,r3),(p4,q4,s4),(p5,q5,s5),rfl,FC.out.Md,fun _=>⟨_,FC.out.near⟩,fun _=>⟨_,_,FC.out⟩⟩,FL.out⟩
 ·have hin:a.id∈b.seen:=by rw [EI.out]; exact of_decide_eq_true HR.out
  have LQ:=O (BD hin);have FB:=O (dK Y3 (U Z b.me) (J no nn nc) (J ao an ac) (J so sn sc) (J eo en ec) (J oo jF oc));have FL:=O (dz (b:=w.heap.size+1+1) B1.out (by omega) (U Z b.me) (J no nn nc) (J ao an ac) (J so sn sc) (J eo en ec) (J oo jF oc));clear hin Y1 Y2 Y3;go_wp2_with fail;obtain⟨v0,v1,v2,v3,v4,v5⟩:=FB.out.fQ;refine bodyPost_ret (v:=.tuple #[bg #[U Z b.me,J no nn nc,J ao an ac,J so sn sc,J eo en ec,J oo jF oc],aO aL]) (by simp [results,aU,go_sem,v0,v1,v2,v3,v4,v5]) rfl ?_;rw [LQ.out];exact⟨⟨(no,nn,nc),(ao,an,ac),(so,sn,sc),(eo,en,ec),(oo,jF,oc),rfl,HH.out.on FL.out,fun h=>h.on FL.out,fun h=>(h.resolve_right (by simp)).on FL.out⟩,FL.out⟩
theorem BJ (b:Br) (a:Ad) (nv av sv ev ov:Sl) (x:iQ) (w:aj) (h:ko w b nv av sv ev ov) (ha:uQ w x a) (hf:yw b) (hp:mG b) (hla:a.p.length<=900) (hr1:zU b.seen) (hr2:wT b.dP) :
  aZ aJ 8 #[nS b.me nv av sv ev ov,jD x] w (EK w (gT w nv b.near) (mW b a)) :=
 (BI b a nv av sv ev ov x w h ha hf hp hla hr1 hr2).mono fun _ _ h=>h.one
def KN (b:Br) (a:Ad):Bool:=decide (a.id∈b.seen) && (mY b.near a.par && Wr.jT a.p)
def su (b:Br) (e:En):Bool:=match fJ b.dP e.tree with
 | none=>aL
 | some a=>!(e.from_ == a.par && !(a.par == -1)) && (mY b.near e.from_ && (!(e.up && a.par == -1) && Wr.jT e.p))
end Av
namespace Sb
open Go.RowKit Go.Sort Rw YtghlpefopidlaaaGreat.Nm Pr Bk Av
abbrev wU (W:aj) (b:Nat) (a0 a1 a2 a3 a4 a5 a6:aH):aj:=((((((W.setCell ⟨b,0,ah⟩ a0).setCell ⟨b,1,ah⟩ a1).setCell ⟨b,2,ah⟩ a2).setCell ⟨b,3,ah⟩ a3).setCell ⟨b,4,ah⟩ a4).setCell ⟨b,5,ah⟩ a5).setCell ⟨b,6,ah⟩ a6
theorem qU {W:aj} {b:Nat} {t:aN} {z0 z1 z2 z3 z4 z5 z6:aH} (h:cZ W b #[z0,z1,z2,z3,z4,z5,z6] t) (a0 a1 a2 a3 a4 a5 a6:aH):cZ (wU W b a0 a1 a2 a3 a4 a5 a6) b #[a0,a1,a2,a3,a4,a5,a6] t:=by
 have h2:=dL (k:=6) (dL (k:=5) (dL (k:=4) (dL (k:=3) (dL (k:=2) (dL (k:=1) (dL (k:=0) h a0) a1) a2) a3) a4) a5) a6;simpa using h2
theorem mZ {B:Nat} {W0 W:aj} {b:Nat} (h:Below B W0 W) (hb:B<=b) (a0 a1 a2 a3 a4 a5 a6:aH):Below B W0 (wU W b a0 a1 a2 a3 a4 a5 a6):=(((((((h).setCell (p:=⟨b,0,ah⟩) hb a0).setCell (p:=⟨b,1,ah⟩) hb a1).setCell (p:=⟨b,2,ah⟩) hb a2).setCell (p:=⟨b,3,ah⟩) hb a3).setCell (p:=⟨b,4,ah⟩) hb a4).setCell (p:=⟨b,5,ah⟩) hb a5).setCell (p:=⟨b,6,ah⟩) hb a6
theorem EM {α:Type} {E:Ek α} {W:aj} {B:Nat} {v:aH} {l:List α} (h:Own E W B v l) (b:Nat) (hb:b<B) (a0 a1 a2 a3 a4 a5 a6:aH):Own E (wU W b a0 a1 a2 a3 a4 a5 a6) B v l :=
 dN (dN (dN (dN (dN (dN (dN (h) b 0 a0 hb) b 1 a1 hb) b 2 a2 hb) b 3 a3 hb) b 4 a4 hb) b 5 a5 hb) b 6 a6 hb
theorem wV (w:aj) (b:Nat) (a0 a1 a2 a3 a4 a5 a6:aH):But b w (wU w b a0 a1 a2 a3 a4 a5 a6) :=
 ((((((dF _ b _ _).trans (dF _ b _ _)).trans (dF _ b _ _)).trans (dF _ b _ _)).trans (dF _ b _ _)).trans (dF _ b _ _)).trans (dF _ b _ _)
theorem vE (x:iw) (p:List C5) (w:aj) (hp:fI w (dH x.2.2.2.2.1) p) (hl:p.length<=900) :
  aZ aJ 85 #[rV x] w fun e w'=>(∃ v':Sl,e=aI (rV (x.1,x.2.1,x.2.2.1,x.2.2.2.1,v',x.2.2.2.2.2.1,x.2.2.2.2.2.2))/\fV w' w.heap.size (dH v') p)/\Below w.heap.size w w':=by
 obtain⟨y1,y2,y3,y4,⟨s1,s2,s3⟩,y6,y7⟩:=x;obtain⟨h0,X,Y⟩:=gP w #[U Z y1,U Z y2,U Z y3,U Z y4,J s1 s2 s3,U Z y6,aO y7] #[U Z 0,U Z 0,U Z 0,U Z 0,J ah 0 0,U Z 0,aO aL] 67 67;have C:=O (iW (s1,s2,s3) p _ (hp.on h0) hl);have B:=O h0;have x4:=X.cell 4;simp only [ay,aA,aB] at x4;have X:=O X;have Y:=O Y;clear h0 hp hl;go_enter Tryz.func85,Tryz.ntmps85;go_wp2_with fail;generalize (w.alloc (aG #[U Z y1,U Z y2,U Z y3,U Z y4,J s1 s2 s3,U Z y6,aO y7] 67)).alloc (aG #[U Z 0,U Z 0,U Z 0,U Z 0,J ah 0 0,U Z 0,aO aL] 67)=W at *;refine C.out.mono ?_;rintro e w1 ⟨⟨⟨u1,u2,u3⟩,rfl,ho⟩,hb⟩;have X1:=X.out.on hb;have Y1:=Y.out.on hb;have hs:w.heap.size<W.heap.size:=X.out.lt;have O1:=O (dN ho w.heap.size 4 (J u1 u2 u3) hs);have XB:=O (show cZ _ _ #[U Z y1,U Z y2,U Z y3,U Z y4,J u1 u2 u3,U Z y6,aO y7] _ from by simpa using dL (k:=4) X1 (J u1 u2 u3));have YB:=O (show cZ _ _ _ _ from (RowKit.Below.heap_setCell w1 ⟨w.heap.size,4,ah⟩ (J u1 u2 u3) _ (show w.heap.size+1≠w.heap.size by omega)).trans Y1);have B1:=O ((B.out.trans (hb.mono B.out.size)).setCell (p:=⟨w.heap.size,4,ah⟩) (aK _) (J u1 u2 u3));have R6:=X1.cell 4;have f4:=X1.fr 4;have z4:=X1.lt;simp only [ay,aA,aB] at R6;clear X1 Y1 ho hb x4 C;go_upto_region 2 with fail;clear R6 f4 z4;generalize w1.setCell ⟨w.heap.size,4,ah⟩ (J u1 u2 u3)=w2 at *;obtain⟨x0,x1,x2,x3,x4,x5,x6⟩:=XB.out.Ai;obtain⟨r0,r1,r2,r3,r4,r5,r6⟩:=YB.out.Ai;obtain⟨t0,t1,t2,t3,t4,t5,t6⟩:=YB.out.Pb;have zz:=YB.out.lt;have hs2:w.heap.size+1<W.heap.size:=Y.out.lt;have FB:=O (qU YB.out (U Z y1) (U Z y2) (U Z y3) (U Z y4) (J u1 u2 u3) (U Z y6) (aO y7));have BL:=O (mZ (b:=w.heap.size+1) B1.out (by omega) (U Z y1) (U Z y2) (U Z y3) (U Z y4) (J u1 u2 u3) (U Z y6) (aO y7));have FO:=O (EM O1.out (w.heap.size+1) hs2 (U Z y1) (U Z y2) (U Z y3) (U Z y4) (J u1 u2 u3) (U Z y6) (aO y7));have HS:=O hs;clear hs hs2;go_wp2_with fail;obtain⟨v0,v1,v2,v3,v4,v5,v6⟩:=FB.out.Ai;refine bodyPost_ret (v:=bg #[U Z y1,U Z y2,U Z y3,U Z y4,J u1 u2 u3,U Z y6,aO y7]) (by simp [results,Tryz.results85,go_sem,v0,v1,v2,v3,v4,v5,v6]) rfl ?_;exact⟨⟨(u1,u2,u3),rfl,dn FO.out (aM HS.out)⟩,BL.out⟩
end Sb
namespace Bk
open Go.RowKit Go.Sort Rw YtghlpefopidlaaaGreat.Nm Pr
end Bk
end Go.Proofs.YtghlpefopidlaaaGreat
