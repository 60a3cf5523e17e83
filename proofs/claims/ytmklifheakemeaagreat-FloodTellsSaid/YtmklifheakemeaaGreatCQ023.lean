/-
  put of package adver. Conditions as told.
-/
import Derived.Test.YtmklifheakemeaaGreatCQ022
import Derived.Test.YtmklifheakemeaaGreatCQ017
import Derived.Laws.IdiomCopy
set_option maxRecDepth 100000
set_option maxHeartbeats 64000000
open _root_.Bool renaming false->aU,true->cZ
open _root_.Go renaming World->aG,Value->aS,TypeId->aZ,Calls->bJ,Addr->cK
open Go.Builtin renaming zeroCells->aL,clear_->aW
open Go.Ending renaming returned->aC
open Go.Instr renaming sliceAt->aX,indexAt->bQ
open Go.IntKind renaming i64->Z
open Go.IntWalk renaming i64_in->aN
open Go.Lib renaming hid->O
open Go.Obj renaming cells->aM
open Go.Proofs.Tryz renaming prog->aB,results35->bM,ntmps96->bV,ntmps98->bX,func92->bY,func96->cu,func98->cB
open Go.Proofs.YtmklifheakemeaaGreat.Rw.Row renaming dH->aQ
open Go.RowKit.Below renaming refl->aP
open Go.Value renaming slice->J,int->U,pointer->ay,bool->aY
open _root_.List renaming getElem?_map->aA,getElem?_eq_some_iff->aD,getElem?_toArray->aF,getElem?_eq_getElem->aH,getElem?_cons_zero->aJ,getElem?_cons_succ->aK,take_add_one->aR,mem_iff_getElem?->aT,filter_eq_self->aV,take_of_length_le->bg,length_set->bD,take_take->bF,take_set_of_le->bH,length_take->bI,drop_drop->bL,map_cons->bN,mem_map->bR,take->cO,drop->dh
open _root_.Nat renaming lt_of_lt_of_le->ah,le_trans->ak,le_refl->aO,le_of_lt->bf,mul_le_mul_right->bG,min_eq_left->bK,add_zero->bS,lt_or_ge->bU,zero_le->bZ
open _root_.Option renaming none->aj,some->au
open Option.some renaming inj->aI
namespace Go.Proofs.YtmklifheakemeaaGreat.Av
open Go.RowKit Go.Sort Rw YtmklifheakemeaaGreat.Nm Pr Bk
theorem RO (l:List fD) (y:fD):gF sI l y<=l.length:=by
 rw [jA];exact ak (mq _ _) (by simp)
theorem Vo (B:Nat) (v:Sl) (l:List fD) (x:fD) (w:aG) (ho:Own EJ w B (dY v) l) (hr:lC sI l) (hl:l.length<=900) (hB:B<=w.heap.size) :
  bJ aB 93 #[dY v,mW x,.func (.func 56) #[] #[]] w fun e w'=>(∃ v':Sl,e=aC (dY v')/\Own EJ w' B (dY v') (gT l (gF sI l (sI x)) x))/\Below B w w'/\(∀ j,j<w.heap.size->au j≠(dY v).ownBlock->w'.heap[j]?=w.heap[j]?):=by
 have h0:=fF w (aM #[U Z x.1,U Z x.2] 31);have X:=dO w #[U Z x.1,U Z x.2] 31;have C:=O (Ph (dY v) l x _ ((aQ ho).on h0) hr hl);obtain⟨ks,hks⟩:∃ k,k=gF sI l (sI x):=⟨_,rfl⟩;have KL:ks<=l.length:=by rw [hks]; exact RO _ _
 rw [<- hks] at C;rw [<- hks];generalize kZ sI l (sI x)=th at *;have OW:=O (Bk.dI ho h0);have HV:=O (show (dY v).ownBlock≠aj->∃ g,(dY v).ownBlock=au g/\g<w.heap.size from fun hne=>by
  cases hb:(dY v).ownBlock with
  | none=>exact absurd hb hne
  | some g=>exact⟨g,rfl,(ho.lt g hb).2⟩)
 have B0:=O ((aP B w).alloc hB (aM #[U Z x.1,U Z x.2] 31));have BN0:=O h0;have KK:=O KL;have LL:=O hl;have BB:=O hB;clear h0 ho hr hl hB hks KL;obtain⟨c1,c2⟩:=x;obtain⟨vo,vn,vc⟩:=v;simp only at C X;obtain⟨x0,x1⟩:=X.cs2;have XX:=O X;clear X;go_enter Tryz.func93,Tryz.ntmps93;go_wp2_with fail;have W1:=O (show w.heap.size<=(w.alloc (aM #[U Z c1,U Z c2] 31)).heap.size by simp);generalize w.alloc (aM #[U Z c1,U Z c2] 31)=W at *;refine C.out.mono ?_;rintro e w1 ⟨rfl,hb⟩;have Y:=XX.out.on hb;obtain⟨y0,y1⟩:=Y.cs2;have O1:=O (Bk.dI OW.out hb);have B1:=O (B0.out.trans (hb.mono (ak BB.out W1.out)));have BW:=O (fun j (hj:j<w.heap.size)=>(hb.block j (ah hj W1.out)).trans (BN0.out.block j hj));have S1:=O (ak W1.out hb.size);clear C Y hb x0 x1;go_wp2_with fail;have hl:=LL.out;have NB:=fF w1 (aM #[U Z c1,U Z c2] 31);refine (JA B _ l ks (c1,c2) w1.heap.size _ (Bk.dI O1.out NB) (dO w1 #[U Z c1,U Z c2] 31) ?_ KK.out (by omega) (ak (ak BB.out S1.out) NB.size)).mono ?_
 ·intro he;obtain⟨g,hg,hlt⟩:=HV.out (by rw [he]; simp);rw [he] at hg;have:=aI hg;have:=S1.out;omega
 rintro e w2 ⟨v',rfl,ho,hb,hoth⟩;obtain⟨a1,a2,hv⟩:=(aQ ho).len;have Q:=O (show (∃ v'':Sl,aC v'=aC (dY v'')/\Own EJ w2 B (dY v'') (gT l ks (c1,c2)))/\Below B w w2/\(∀ j,j<w.heap.size->au j≠(dY (vo,vn,vc)).ownBlock->w2.heap[j]?=w.heap[j]?) from ⟨⟨(a1,_,a2),by rw [hv],by subst hv; simpa [gT] using ho⟩,(B1.out.trans (NB.mono (ak BB.out S1.out))).trans hb,fun j hj hne=>(hoth j (ah (ah hj S1.out) NB.size) hne).trans ((NB.block j (ah hj S1.out)).trans (BW.out j hj))⟩);clear ho hb hv hl NB;go_wp2;go_ret;exact Q.out
theorem RQ (l:List jv) (y:fD):gF jw l y<=l.length:=by
 rw [jA];exact ak (mq _ _) (by simp)
theorem Vp (B:Nat) (v:Sl) (l:List jv) (x:jv) (w:aG) (ho:Own ED w B (dY v) l) (hr:lC jw l) (hl:l.length<=900) (hB:B<=w.heap.size) :
  bJ aB 92 #[dY v,lX x,.func (.func 58) #[] #[]] w fun e w'=>(∃ v':Sl,e=aC (dY v')/\Own ED w' B (dY v') (gT l (gF jw l (jw x)) x))/\Below B w w'/\(∀ j,j<w.heap.size->au j≠(dY v).ownBlock->w'.heap[j]?=w.heap[j]?):=by
 have h0:=fF w (aM #[U Z x.1,U Z x.2.1,dY x.2.2.1,U Z x.2.2.2] 74);have X:=dO w #[U Z x.1,U Z x.2.1,dY x.2.2.1,U Z x.2.2.2] 74;have C:=O (Pm (dY v) l x _ ((aQ ho).on h0) hr hl);obtain⟨ks,hks⟩:∃ k,k=gF jw l (jw x):=⟨_,rfl⟩;have KL:ks<=l.length:=by rw [hks]; exact RQ _ _
 have e1:jw x=(x.1,x.2.1):=rfl;rw [<- e1] at C;rw [<- hks] at C;rw [<- hks];generalize kZ jw l (jw x)=th at *;have OW:=O (Bk.dI ho h0);have HV:=O (show (dY v).ownBlock≠aj->∃ g,(dY v).ownBlock=au g/\g<w.heap.size from fun hne=>by
  cases hb:(dY v).ownBlock with
  | none=>exact absurd hb hne
  | some g=>exact⟨g,rfl,(ho.lt g hb).2⟩)
 have B0:=O ((aP B w).alloc hB (aM #[U Z x.1,U Z x.2.1,dY x.2.2.1,U Z x.2.2.2] 74));have BN0:=O h0;have KK:=O KL;have LL:=O hl;have BB:=O hB;clear h0 ho hr hl hB hks KL;obtain⟨c1,c2,⟨c3,c4,c5⟩,c6⟩:=x;obtain⟨vo,vn,vc⟩:=v;simp only at C X;obtain⟨x0,x1,x2,x3⟩:=X.Ak;have XX:=O X;clear X;go_enter bY,Tryz.ntmps92;go_wp2_with fail;have W1:=O (show w.heap.size<=(w.alloc (aM #[U Z c1,U Z c2,J c3 c4 c5,U Z c6] 74)).heap.size by simp);generalize w.alloc (aM #[U Z c1,U Z c2,J c3 c4 c5,U Z c6] 74)=W at *;refine C.out.mono ?_;rintro e w1 ⟨rfl,hb⟩;have Y:=XX.out.on hb;obtain⟨y0,y1,y2,y3⟩:=Y.Ak;have O1:=O (Bk.dI OW.out hb);have B1:=O (B0.out.trans (hb.mono (ak BB.out W1.out)));have BW:=O (fun j (hj:j<w.heap.size)=>(hb.block j (ah hj W1.out)).trans (BN0.out.block j hj));have S1:=O (ak W1.out hb.size);clear C Y hb x0 x1 x2 x3;go_wp2_with fail;have hl:=LL.out;have NB:=fF w1 (aM #[U Z c1,U Z c2,J c3 c4 c5,U Z c6] 74);refine (Jr B _ l ks (c1,c2,(c3,c4,c5),c6) w1.heap.size _ (Bk.dI O1.out NB) (dO w1 #[U Z c1,U Z c2,J c3 c4 c5,U Z c6] 74) ?_ KK.out (by omega) (ak (ak BB.out S1.out) NB.size)).mono ?_
 ·intro he;obtain⟨g,hg,hlt⟩:=HV.out (by rw [he]; simp);rw [he] at hg;have:=aI hg;have:=S1.out;omega
 rintro e w2 ⟨v',rfl,ho,hb,hoth⟩;obtain⟨a1,a2,hv⟩:=(aQ ho).len;have Q:=O (show (∃ v'':Sl,aC v'=aC (dY v'')/\Own ED w2 B (dY v'') (gT l ks (c1,c2,(c3,c4,c5),c6)))/\Below B w w2/\(∀ j,j<w.heap.size->au j≠(dY (vo,vn,vc)).ownBlock->w2.heap[j]?=w.heap[j]?) from ⟨⟨(a1,_,a2),by rw [hv],by subst hv; simpa [gT] using ho⟩,(B1.out.trans (NB.mono (ak BB.out S1.out))).trans hb,fun j hj hne=>(hoth j (ah (ah hj S1.out) NB.size) hne).trans ((NB.block j (ah hj S1.out)).trans (BW.out j hj))⟩);clear ho hb hv hl NB;go_wp2;go_ret;exact Q.out
def Off (ob:Option Nat) (W x:aG):Prop:=(∀ j,j<W.heap.size->au j≠ob->x.heap[j]?=W.heap[j]?)/\W.heap.size<=x.heap.size
def Tag (ob:Option Nat) (W:aG) (t:aZ):Prop:=∀ g,ob=au g->∃ d,dJ W g d t
theorem kK {α:Type} {E:Ek α} {W:aG} {B:Nat} {v:aS} {l:List α} (h:Own E W B v l):Tag v.ownBlock W E.t:=by
 intro g hg;rcases gX h with⟨rfl,_⟩|⟨g',c',cur,rfl,_,h2,_⟩
 ·cases hg
 ·obtain rfl:g'=g:=by simpa [Value.ownBlock] using hg
  exact⟨cur,h2⟩
theorem Off.own {α:Type} {E:Ek α} {ob:Option Nat} {W x:aG} {B:Nat} {v:aS} {l:List α} {t:aZ} (h:Off ob W x) (ho:Own E W B v l) (hg:Tag ob W t) (hne:(E.t == t)=aU):Own E x B v l:=by
 refine⟨ho.1,?_⟩;rcases ho.2 with h2|⟨g',cap,cur,h1,h2,h3,h4⟩
 ·exact Or.inl h2
 ·refine Or.inr ⟨g',cap,cur,h1,h2,?_,h4⟩;rw [h.1 g' (lt_of_heap h3) fun e=>by
   obtain⟨d,hd⟩:=hg g' e.symm;exact lT (show dJ W g' cur E.t from h3) hd hne rfl]
  exact h3
theorem Off.box {ob:Option Nat} {W x:aG} {b:Nat} {cs:Array aS} {s t:aZ} (h:Off ob W x) (hb:dJ W b cs s) (hg:Tag ob W t) (hne:(s == t)=aU):dJ x b cs s:=(h.1 b hb.lt fun e=>by
 obtain⟨d,hd⟩:=hg b e.symm;exact lT hb hd hne rfl).trans hb
theorem PM.off {w0 wr x:aG} {B:Nat} {v:aS} {p:List C5} {ob:Option Nat} {t:aZ} (h:PM w0 B wr v p) (hb:Off ob wr x) (hg:Tag ob wr t) (hne:(70 == t)=aU):PM w0 B x v p:=h.imp id fun h=>hb.own h hg hne
theorem Ma.off {w0 wr x:aG} {B:Nat} {y:jv} {a:Ad} {ob:Option Nat} {t:aZ} (h:Ma w0 B wr y a) (hb:Off ob wr x) (hg:Tag ob wr t) (hne:(70 == t)=aU):Ma w0 B x y a:=⟨h.1,h.2.1,h.2.2.off hb hg hne⟩
theorem Mc.off {w0 wr x:aG} {B:Nat} {y:iH} {a:En} {ob:Option Nat} {t:aZ} (h:Mc w0 B wr y a) (hb:Off ob wr x) (hg:Tag ob wr t) (hne:(70 == t)=aU):Mc w0 B x y a:=⟨h.1,h.2.1,h.2.2.1,h.2.2.2.1,h.2.2.2.2.off hb hg hne⟩
theorem Oy.off {w0 wr x:aG} {B:Nat} {y:oq} {a:Ow} {ob:Option Nat} {t:aZ} (h:Oy w0 B wr y a) (hb:Off ob wr x) (hg:Tag ob wr t) (hne:(70 == t)=aU):Oy w0 B x y a:=⟨h.1,h.2.off hb hg hne⟩
theorem Cp.air {w0 wr x:aG} {B:Nat} {b:Br} {nv av sv ev ov Ac:Sl} {al:List Ad} (h:Cp w0 B wr b nv av sv ev ov) (hb:Off (dY av).ownBlock wr x) (hx:∃ l,lY x B (dY Ac) l/\eY (Ma w0 B x) l al):Cp w0 B x { b with dP:=al } nv Ac sv ev ov:=by
 obtain⟨l0,hl0,_⟩:=h.dP;have hg:=kK hl0;exact {
  near:=hb.own h.near hg (by decide)
  seen:=hb.own h.seen hg (by decide)
  dP:=hx
  ent:=by obtain⟨l,h1,h2⟩:=h.ent; exact⟨l,hb.own h1 hg (by decide),h2.mono fun _ _ h=>h.off hb hg (by decide)⟩
  own:=by obtain⟨l,h1,h2⟩:=h.own; exact⟨l,hb.own h1 hg (by decide),h2.mono fun _ _ h=>h.off hb hg (by decide)⟩ }
theorem Cp.af7 {w0 wr x:aG} {B:Nat} {b:Br} {nv av sv ev ov ev':Sl} {el:List En} (h:Cp w0 B wr b nv av sv ev ov) (hb:Off (dY ev).ownBlock wr x) (hx:∃ l,kY x B (dY ev') l/\eY (Mc w0 B x) l el):Cp w0 B x { b with ent:=el } nv av sv ev' ov:=by
 obtain⟨l0,hl0,_⟩:=h.ent;have hg:=kK hl0;exact {
  near:=hb.own h.near hg (by decide)
  seen:=hb.own h.seen hg (by decide)
  dP:=by obtain⟨l,h1,h2⟩:=h.dP; exact⟨l,hb.own h1 hg (by decide),h2.mono fun _ _ h=>h.off hb hg (by decide)⟩
  ent:=hx
  own:=by obtain⟨l,h1,h2⟩:=h.own; exact⟨l,hb.own h1 hg (by decide),h2.mono fun _ _ h=>h.off hb hg (by decide)⟩ }
theorem Cp.ald {w0 wr x:aG} {B:Nat} {b:Br} {nv av sv ev ov IK:Sl} {sl:List fD} (h:Cp w0 B wr b nv av sv ev ov) (hb:Off (dY sv).ownBlock wr x) (hx:sD x B (dY IK) sl):Cp w0 B x { b with seen:=sl } nv av IK ev ov:=by
 have hg:=kK h.seen;exact {
  near:=hb.own h.near hg (by decide)
  seen:=hx
  dP:=by obtain⟨l,h1,h2⟩:=h.dP; exact⟨l,hb.own h1 hg (by decide),h2.mono fun _ _ h=>h.off hb hg (by decide)⟩
  ent:=by obtain⟨l,h1,h2⟩:=h.ent; exact⟨l,hb.own h1 hg (by decide),h2.mono fun _ _ h=>h.off hb hg (by decide)⟩
  own:=by obtain⟨l,h1,h2⟩:=h.own; exact⟨l,hb.own h1 hg (by decide),h2.mono fun _ _ h=>h.off hb hg (by decide)⟩ }
theorem Ck {α β:Type} {R:α->β->Prop} {l:List α} {m:List β} (h:eY R l m) (k:Nat) {a:α} {b:β} (hr:R a b):eY R (gT l k a) (gT m k b) :=
 ((h.take k).append (.cons hr .nil)).append (h.drop k)
theorem keys_eq {w0 wr:aG} {B:Nat}:∀ {l:List jv} {al:List Ad},eY (Ma w0 B wr) l al->l.map jw=al.map Ad.id
 | _,_,.nil=>rfl
 | _,_,.cons h t=>by rw [bN,bN,keys_eq t]; exact congrArg (·::_) h.1
theorem uW {α:Type} (key:α->fD) (l:List α):lC key l↔lC (fun x:fD=>x) (l.map key):=by
 unfold lC;rw [List.pairwise_map]
theorem xC {g:Nat} {t:aZ}:∀ (vs:List aS) (o:Nat) (w:aG) (cur:Array aS),dJ w g cur t->∃ cur',dJ (w.setCells g o vs) g cur' t/\cur'.size=cur.size/\cur'.toList.take o=cur.toList.take o
 | [],o,w,cur,h=>⟨cur,h,rfl,rfl⟩
 | v::r,o,w,cur,h=>by
  obtain⟨cur',h1,h2,h3⟩:=xC r (o+1) (w.setCell ⟨g,o,aj⟩ v) _ (dZ (k:=o) h v);refine⟨cur',h1,by rw [h2]; simp,?_⟩;have h4:=congrArg (cO o) h3;rw [bF,bF,bK (by omega)] at h4;rw [h4,Array.toList_setIfInBounds,bH (aO _)]
theorem xD (g:Nat):∀ (vs:List aS) (o:Nat) (w:aG),But g w (w.setCells g o vs)
 | [],_,_w=>⟨fun _ _ _=>rfl,aO _⟩
 | v::r,o,w=>(dQ w g o v).trans (xD g r (o+1) _)
theorem below_setCells {B g:Nat} (hB:B<=g):∀ (vs:List aS) (o:Nat) (W w:aG),Below B W w->Below B W (w.setCells g o vs)
 | [],_,_,_,h=>h
 | v::r,o,W,_w,h=>below_setCells hB r (o+1) W _ (h.setCell (p:=⟨g,o,aj⟩) hB v)
theorem Fj {α:Type} {E:Ek α} (K:E.Ok) (hz:∀ v∈E.z.cells.toList,v.oneCell'=cZ) {W:aG} {B g n cap i:Nat} {L:List α} (h:Own E W B (J (au ⟨g,0,aj⟩) n cap) L) (hi:i<n) (ty:aZ) :
  ∃ W',(aW #[E.ts] ty #[J (au ⟨g,i * E.n,aj⟩) (n-i) (cap-i)]).run aB W=.ok (.tuple #[]) W'/\Own E W' B (J (au ⟨g,0,aj⟩) i cap) (L.take i)/\But g W W'/\(∀ B' W0,B'<=g->Below B' W0 W->Below B' W0 W'):=by
 have hln:=iC h;rcases gX h with⟨h1,_⟩|⟨g',cap',cur,h1,h2,h3,h4,h5,h6,h7⟩
 ·cases h1
 ·obtain⟨rfl,_,rfl⟩:g=g'/\n=L.length/\cap=cap':=by simpa using h1
  have hzs:(aL E.z.cells (n-i)).toList.length=(n-i) * E.n:=by simp [aL,K.zs]
  have h10:i * E.n+(n-i) * E.n=n * E.n:=by rw [<- Nat.add_mul,Nat.add_sub_cancel' (bf hi)]
  have h11:n * E.n<=cap * E.n:=bG _ (by omega);have hone:∀ v∈(aL E.z.cells (n-i)).toList,v.oneCell'=cZ:=by
   intro v hv;simp only [aL,Array.toList_map,bR] at hv;obtain⟨j,_,rfl⟩:=hv;have hp:=K.pos;have hlt:j % E.z.cells.size<E.z.cells.size:=Nat.mod_lt _ (by rw [K.zs]; exact hp);refine hz _ ?_;rw [getElem!_pos E.z.cells (j % E.z.cells.size) hlt,Array.mem_toList_iff];exact Array.getElem_mem hlt
  have hst:=run_storeCells_cells (P:=aB) g (i * E.n) (aL E.z.cells (n-i)).toList 0 W (by
   intro j hj;rw [hzs] at hj;rw [bS,h3.cell];have:i * E.n+j<cur.size:=by rw [h6]; omega
   simp [this]) (fun j _=>h3.fr _) hone
  rw [bS] at hst;obtain⟨ii,i1,i2,i3,i4⟩:=K.info;obtain⟨cur',c1,c2,c3⟩:=xC (aL E.z.cells (n-i)).toList (i * E.n) W cur h3;refine⟨W.setCells g (i * E.n) (aL E.z.cells (n-i)).toList,?_,?_,xD _ _ _ _,fun B' W0 hB hb=>below_setCells hB _ _ _ _ hb⟩
  ·obtain⟨m,hm⟩:∃ m,n-i=m+1:=⟨n-i-1,by omega⟩;rw [hm] at hst ⊢;have hv:∀ w,(zeroValue E.t).run aB w=.ok E.z w:=fun w=>by simp [go_sem,zeroValue,typeInfo,i1,i2]
   simp [aW,run_underlying K.hu,hv,hst]
  ·refine qU K (by rw [bI]; omega) h2 c1 (by omega) h5 (by rw [c2]; exact h6) ?_;rw [c3];have h8:=congrArg (cO (i * E.n)) h7;rw [bF,uL K,bK (by rw [<- hln] at hi; exact bG _ (bf hi))] at h8;exact h8
structure ug {α:Type} (keep:α->Bool) (l:List α) (i j:Nat) (L:List α):Prop where
 len:L.length=l.length
 lt:i<j
 lo:L.take i=(l.take j).filter keep
 hi:L.drop j=l.drop j
theorem ug.at {α:Type} {keep:α->Bool} {l:List α} {i j:Nat} {L:List α} (h:ug keep l i j L):L[j]?=l[j]?:=by
 have:=congrArg (fun m=>m[0]?) h.hi;simpa using this
theorem ug.skip {α:Type} {keep:α->Bool} {l:List α} {i j:Nat} {L:List α} {x:α} (h:ug keep l i j L) (hx:l[j]?=au x) (hk:keep x=aU):ug keep l i (j+1) L where
 len:=h.len
 lt:=Nat.lt_succ_of_lt h.lt
 lo:=by
  rw [h.lo,aR,hx];simp [hk]
 hi:=by
  have:=congrArg (dh 1) h.hi;simpa [bL] using this
theorem ug.keep {α:Type} {keep:α->Bool} {l:List α} {i j:Nat} {L:List α} {x:α} (h:ug keep l i j L) (hx:l[j]?=au x) (hk:keep x=cZ):ug keep l (i+1) (j+1) (L.set i x) where
 len:=by rw [bD]; exact h.len
 lt:=by have:=h.lt; omega
 lo:=by
  have hj:=(aD.1 hx).1;have hl:=h.lt;have hL:=h.len;rw [aR,bH (aO _),h.lo,List.getElem?_set_self (by omega),aR,hx];simp [hk]
 hi:=by
  have:=congrArg (dh 1) h.hi;rw [List.drop_set_of_lt (by have:=h.lt; omega)];simpa [bL] using this
theorem xE {α:Type} {keep:α->Bool} {l:List α} {k:Nat} {x:α} (hx:l[k]?=au x) (hk:keep x=aU) (hall:∀ (j:Nat) (y:α),j<k->l[j]?=au y->keep y=cZ):ug keep l k (k+1) l where
 len:=rfl
 lt:=Nat.lt_succ_self _
 lo:=by
  rw [aR,hx,List.filter_append];have:(l.take k).filter keep=l.take k:=by
   rw [aV];intro y hy;obtain⟨j,hj⟩:=aT.1 hy;have hj':=(aD.1 hj).1;rw [bI] at hj';rw [List.getElem?_take_of_lt (by omega)] at hj;exact hall j y (by omega) hj
  rw [this];simp [hk]
 hi:=rfl
theorem uX {α:Type} {key:α->fD} {l:List α} {x:fD} (h:fM (l.map key) x=-1):∀ (j:Nat) (y:α),l[j]?=au y->key y≠x:=by
 intro j y hj hy;have h1:=Jv (l.map key) x;rw [h] at h1;have:x∈l.map key:=bR.2 ⟨y,List.mem_of_getElem? hj,hy⟩;simp [this] at h1
theorem qZ:∀ {l:List fD} {x:fD} {k:Nat},fM l x=k->l[k]?=au x/\∀ (j:Nat) (y:fD),j<k->l[j]?=au y->y≠x
 | [],x,k,h=>by simp [fM] at h <;> omega
 | a::l,x,k,h=>by
  unfold fM at h;by_cases hax:a=x
  ·rw [if_pos hax] at h;obtain rfl:k=0:=by omega
   exact⟨by simpa using hax,fun j y hj=>by omega⟩
  ·rw [if_neg hax] at h;by_cases h2:fM l x=-1
   ·rw [if_pos h2] at h; omega
   ·rw [if_neg h2] at h;cases k with
    | zero=>have:=nK l x; omega
    | succ k =>
     obtain⟨h3,h4⟩:=qZ (l:=l) (x:=x) (k:=k) (by omega);refine⟨by simpa using h3,fun j y hj hy=>?_⟩;cases j with
     | zero =>
      obtain rfl:a=y:=by simpa using hy
      exact hax
     | succ j=>exact h4 j y (by omega) (by simpa using hy)
theorem ale {w:aG} {B g n cap k:Nat} {l:List jv} (x:jv) (h:Own ED w B (J (au ⟨g,0,aj⟩) n cap) l) (hk:k<l.length) :
  MS ED B g (J (au ⟨g,0,aj⟩) n cap) (l.set k x) w ((((w.setCell ⟨g,k * 4,aj⟩ (U Z x.1)).setCell ⟨g,k * 4+1,aj⟩ (U Z x.2.1)).setCell ⟨g,k * 4+2,aj⟩ (dY x.2.2.1)).setCell ⟨g,k * 4+3,aj⟩ (U Z x.2.2.2)):=by
 have hln:=iC h;subst hln;have h:w.ownsRow B 74 4 (J (au ⟨g,0,aj⟩) l.length cap) l.length (flat ED l):=h;have s1:=(h.stored (k * 4) (U Z x.1)).1;have s2:=(s1.stored (k * 4+1) (U Z x.2.1)).1;have s3:=(s2.stored (k * 4+2) (dY x.2.2.1)).1;have s4:=(s3.stored (k * 4+3) (U Z x.2.2.2)).1;refine⟨?_,((((dQ _ g _ _).trans (dQ _ g _ _)).trans (dQ _ g _ _)).trans (dQ _ g _ _)),fun B' W hB hb=>((((hb.setCell (p:=⟨g,_,aj⟩) hB _).setCell (p:=⟨g,_,aj⟩) hB _).setCell (p:=⟨g,_,aj⟩) hB _).setCell (p:=⟨g,_,aj⟩) hB _)⟩;have e:=yM l k x hk;show World.ownsRow _ B 74 4 _ (l.set k x).length (flat ED (l.set k x));rw [e,bD];exact s4
theorem JU (x:jv) (b2:Nat) (c d:Int) (r:Bool) (hr:decide (jw x=(c,d))=r) (w:aG) (h:dJ w b2 #[U Z c,U Z d] 31):bJ aB 97 #[lX x,ay (au ⟨b2,0,aj⟩)] w fun e w'=>e=aC (aY r)/\Below w.heap.size w w':=by
 obtain⟨y1,y2,⟨yo,yn,yc⟩,y4⟩:=x;have n0:=fF w (aM #[U Z y1,U Z y2,J yo yn yc,U Z y4] 74);have hx:=dO w #[U Z y1,U Z y2,J yo yn yc,U Z y4] 74;have x1:=hx.cell 1;have x0:=hx.cell 0;obtain⟨z0,z1⟩:=(h.on n0).cs2;simp only [aF,aJ,aK] at x0 x1;have he:=tF y1 y2 c d r (by
  rw [<- hr];by_cases h1:y1=c <;> by_cases h2:y2=d <;> simp [h1,h2])
 have N0:=O n0;clear n0 hx h hr;go_enter Tryz.func97,Tryz.ntmps97;go_wp2;go_ret;exact⟨rfl,N0.out⟩
theorem Vq (v:Sl) (l:List jv) (b2:Nat) (c d:Int) (w:aG) (hs:Row ED w (dY v) l) (hb2:dJ w b2 #[U Z c,U Z d] 31) :
  bJ aB 148 #[dY v,.func (.func 97) #[] #[ay (au ⟨b2,0,aj⟩)]] w fun e w'=>e=aC (U Z (fM (l.map jw) (c,d)))/\Below w.heap.size w w':=by
 obtain⟨so,sn,sc⟩:=v;obtain⟨ao,ac,hv⟩:=hs.len;have hv:J so sn sc=J ao l.length ac:=hv;obtain⟨rfl,rfl,rfl⟩:so=ao/\sn=l.length/\sc=ac:=by simpa using hv
 have HS:=O hs;have X2:=O hb2;have lm:=hs.most;unfold maxLen at lm;obtain⟨n,hn⟩:∃ n,n=l.length:=⟨_,rfl⟩;rw [<- hn] at HS lm ⊢;have HN:=O hn.symm;clear hb2 hs hv hn;go_enter Tryz.func148,Tryz.ntmps148;go_wp2
 go_loopw [8] (fun i wr=>∃ k:Nat,k<=n/\i=U Z k/\Below w.heap.size w wr/\∀ (j:Nat) (y:jv),j<k->l[j]?=au y->jw y≠(c,d)) (fun i _=>n-(intOf i).toNat)
 case atStart=>exact⟨0,bZ _,rfl,aP _ _,fun j y h=>by omega⟩
 case round =>
  obtain⟨k,hk,rfl,hbe,hall⟩:=hrel;have BE:=O hbe;have AL:=O hall;clear hbe hall;by_cases hlt:k<n
  ·obtain⟨y,hy⟩:∃ y,l[k]?=au y:=⟨_,aH (by rw [HN.out]; exact hlt)⟩;obtain⟨p,ix,px⟩:=IJ HS.out rfl HN.out hy;obtain⟨p0,p1,p2,p3⟩:=px wr BE.out;obtain⟨r,hr⟩:∃ r,decide (jw y=(c,d))=r:=⟨_,rfl⟩;have CL:=O (JU y b2 c d r hr wr (X2.out.on BE.out));have HY:=O hy;have HR:=O hr;obtain⟨y1,y2,⟨yo,yn,yc⟩,y4⟩:=y;simp only at p0 p1 p2 p3;have hw3:IntKind.i64.wrap ((k:Int)+1)=(k:Int)+1:=aN _ (by omega);clear px hy hr;go_wp2_with fail;refine CL.out.mono ?_;rintro e w1 ⟨rfl,hb⟩;have B1:=O (BE.out.trans (hb.mono BE.out.size));clear hb CL ix p0 p1 p2 p3;cases r
   ·go_wp2
    go_roundw
    case rel=>exact⟨k+1,by omega,by go_num,B1.out,fun j y' hj h1=>by
     rcases bU j k with h3|h3
     ·exact AL.out j y' h3 h1
     ·obtain rfl:j=k:=by omega
      have e1:=HY.out;rw [h1] at e1;rw [aI e1];exact of_decide_eq_false HR.out⟩
    case measure=>simp [intOf]; omega
   ·go_wp2;go_ret;exact⟨by rw [BP (l.map jw) k (c,d) (by rw [aA,HY.out]; exact congrArg au (of_decide_eq_true HR.out)) (fun j z hj hz=>by
     rw [aA] at hz;cases hz2:l[j]? with
     | none=>rw [hz2] at hz; cases hz
     | some u=>rw [hz2] at hz; rw [<- aI hz]; exact AL.out j u hj hz2)]; rfl,B1.out⟩
  ·obtain rfl:k=n:=by omega
   go_wp2;go_ret;exact⟨by rw [wE (l.map jw) (c,d) (fun j z hz=>by
     rw [aA] at hz;cases hz2:l[j]? with
     | none=>rw [hz2] at hz; cases hz
     | some u=>rw [hz2] at hz; rw [<- aI hz]; exact AL.out j u (by rw [<- HN.out]; exact (aD.1 hz2).1) hz2)]; rfl,BE.out⟩
abbrev keepD (c d:Int) (x:jv):Bool:=decide (jw x≠(c,d))
theorem Vr (B:Nat) (v:Sl) (l:List jv) (b2:Nat) (c d:Int) (w:aG) (ho:Own ED w B (dY v) l) (hb2:dJ w b2 #[U Z c,U Z d] 31) (hB:B<=w.heap.size) :
  bJ aB 96 #[dY v,.func (.func 97) #[] #[ay (au ⟨b2,0,aj⟩)]] w fun e w'=>(∃ v':Sl,e=aC (dY v')/\Own ED w' B (dY v') (l.filter (keepD c d)))/\Below B w w'/\Off (dY v).ownBlock w w':=by
 obtain⟨so,sn,sc⟩:=v;obtain⟨ao,ac,hv⟩:=(aQ ho).len;have hv:J so sn sc=J ao l.length ac:=hv;obtain⟨rfl,rfl,rfl⟩:so=ao/\sn=l.length/\sc=ac:=by simpa using hv
 have IX:=O (Vq (so,l.length,sc) l b2 c d w (aQ ho) hb2);have HO:=O ho;have X2:=O hb2;have lm:=(aQ ho).most;unfold maxLen at lm;have BZ:=O (show w.heap.size<=w.heap.size from aO _);obtain⟨n,hn⟩:∃ n,n=l.length:=⟨_,rfl⟩;rw [<- hn] at HO lm IX ⊢;have HN:=O hn.symm;obtain⟨q,hq⟩:∃ q,fM (l.map jw) (c,d)=q:=⟨_,rfl⟩;rw [hq] at IX;have HQ:=O hq;have HB:=O hB;have LB:=O (show ∀ g,(dY (so,n,sc)).ownBlock=au g->B<=g from fun g hg=>(HO.out.lt g hg).1);clear hb2 ho hv hn hB;by_cases hneg:q=-1
 ·subst hneg;go_enter cu,bV;go_wp2_with fail;refine IX.out.mono ?_;rintro e w1 ⟨rfl,hb⟩;have FE:=O (show l.filter (keepD c d)=l from by
   rw [aV];intro y hy;obtain⟨j,hj⟩:=aT.1 hy;exact decide_eq_true (uX hq j y hj))
  have BH:=O hb;clear hb hq;go_wp2;go_ret;exact⟨⟨(so,n,sc),rfl,by rw [FE.out]; exact Bk.dI HO.out BH.out⟩,BH.out.mono HB.out,fun j hj _=>BH.out.block j hj,BH.out.size⟩
 ·obtain⟨k,rfl⟩:∃ k:Nat,q=k:=⟨q.toNat,by have:=nK (l.map jw) (c,d); omega⟩;obtain⟨g1,g2⟩:=qZ hq;obtain⟨x,hx,hxk⟩:∃ x,l[k]?=au x/\jw x=(c,d):=by
   rw [aA] at g1;cases hz:l[k]? with
   | none=>rw [hz] at g1; cases g1
   | some x=>rw [hz] at g1; exact⟨x,rfl,aI g1⟩
  have ST0:=O (xE (keep:=keepD c d) hx (decide_eq_false (by simp [hxk])) (fun j y hj hy=>decide_eq_true (g2 j (jw y) hj (by rw [aA,hy]; rfl))));have hkl:k<n:=by rw [<- HN.out]; exact (aD.1 hx).1
  obtain⟨g,rfl,hBg⟩:∃ g,so=au ⟨g,0,aj⟩/\B<=g:=uf HO.out (show 0<n by omega);have BG:=O hBg;have TG:=O (kK HO.out);have hcap:n<=sc:=by
   rcases gX HO.out with⟨h1,_⟩|⟨g',c',cur,h1,h2,h3,h4,h5,h6,h7⟩
   ·cases h1
   ·have e1:sc=c':=by simpa using congrArg (fun v=>match v with | Value.slice _ _ c=>c | _=>0) h1
    have:=HN.out;omega
  have hw0:IntKind.i64.wrap ((k:Int)+1)=(k:Int)+1:=aN _ (by omega);have hk1:((k:Int) == -1)=aU:=by rw [beq_eq_false_iff_ne]; omega
  clear hq g1 g2 hx hxk x hneg hBg LB;go_enter cu,bV;go_wp2_with fail;refine IX.out.mono ?_;rintro e w1 ⟨rfl,hb⟩;have O1:=O (Bk.dI HO.out hb);have B1:=O (hb.mono HB.out);have F1:=O (show Off (au g) w w1 from ⟨fun j hj _=>hb.block j hj,hb.size⟩);clear hb IX;go_wp2;clear hw0 hk1
  go_loopw [5,6] (fun s5 s6 wr=>∃ (i j:Nat) (L:List jv),s5=U Z i/\s6=U Z j/\j<=n/\ug (keepD c d) l i j L/\Own ED wr B (J (au ⟨g,0,aj⟩) n sc) L/\Below B w wr/\Off (au g) w wr) (fun _ s6 _=>n-(intOf s6).toNat)
  case atStart=>exact⟨k,k+1,l,rfl,by go_num,by omega,ST0.out,O1.out,B1.out,F1.out⟩
  case round =>
   obtain⟨i,j,L,rfl,rfl,hj,hst,how,hbe,hof⟩:=hrel;have ST:=O hst;have OW:=O how;have BE:=O hbe;have OF:=O hof;have hij:=hst.lt;have LN:=O (show L.length=n from hst.len.trans HN.out);clear hst how hbe hof O1 B1 F1 ST0;by_cases hlt:j<n
   ·obtain⟨y,hy⟩:∃ y,l[j]?=au y:=⟨_,aH (by rw [HN.out]; exact hlt)⟩;have hyL:L[j]?=au y:=by rw [ST.out.at,hy]
    obtain⟨p,ix,px⟩:=IJ (aQ OW.out) rfl LN.out hyL;obtain⟨p0,p1,p2,p3⟩:=px wr (aP _ _);obtain⟨r,hr⟩:∃ r,decide (jw y=(c,d))=r:=⟨_,rfl⟩;have HY:=O hy;have hw3:IntKind.i64.wrap ((j:Int)+1)=(j:Int)+1:=aN _ (by omega);have hw5:IntKind.i64.wrap ((i:Int)+1)=(i:Int)+1:=aN _ (by omega);obtain⟨z,hz⟩:∃ z,L[i]?=au z:=⟨_,aH (by rw [LN.out]; omega)⟩;have HZ:=O hz;have X2w:=OF.out.box X2.out TG.out (by decide);have CLO:=JU y b2 c d r hr;have KP:=O (show keepD c d y=!r from by rw [<- hr]; simp [keepD]);obtain⟨y1,y2,⟨yo,yn,yc⟩,y4⟩:=y;simp only at p0 p1 p2 p3;have NB:=O (fF wr (aM #[U Z y1,U Z y2,J yo yn yc,U Z y4] 74));have CL:=O (CLO _ (X2w.on NB.out));clear hy hyL px hr hz CLO X2w;go_wp2_with fail;refine CL.out.mono ?_;rintro e w2 ⟨rfl,hb⟩;have BB:=O (NB.out.trans (hb.mono NB.out.size));have Y7:=(dO wr #[U Z y1,U Z y2,J yo yn yc,U Z y4] 74).on hb;obtain⟨q0,q1,q2,q3⟩:=Y7.Ak;have O2:=O (Bk.dI OW.out BB.out);clear hb CL ix p0 p1 p2 p3 Y7;cases r
    ·have ix:=lJ okD g i n sc (by omega);have ix:∀ w,(bQ 23 (J (au ⟨g,0,aj⟩) n sc) (U Z i)).run aB w=.ok (ay (au ⟨g,i * 4,aj⟩)) w:=ix;have ca:=jP okD O2.out HZ.out w2 (aP _ _);have ce0:=ca 0 _ rfl;have ce1:=ca 1 _ rfl;have ce2:=ca 2 _ rfl;have ce3:=ca 3 _ rfl;simp [Addr.add,ED] at ce0 ce1 ce2 ce3;obtain⟨cur,hbx⟩:=jU O2.out;have f:=fun j=>hbx.fr j;have gl:=hbx.lt;have SQ:MS ED B g (J (au ⟨g,0,aj⟩) n sc) (L.set i (y1,y2,(yo,yn,yc),y4)) w2 ((((w2.setCell ⟨g,i * 4,aj⟩ (U Z y1)).setCell ⟨g,i * 4+1,aj⟩ (U Z y2)).setCell ⟨g,i * 4+2,aj⟩ (J yo yn yc)).setCell ⟨g,i * 4+3,aj⟩ (U Z y4)):=ale (y1,y2,(yo,yn,yc),y4) O2.out (by rw [LN.out]; omega);have SQ:=O SQ;clear hbx ca;go_upto_region 10 with fail;generalize ((((w2.setCell ⟨g,i * 4,aj⟩ (U Z y1)).setCell ⟨g,i * 4+1,aj⟩ (U Z y2)).setCell ⟨g,i * 4+2,aj⟩ (J yo yn yc)).setCell ⟨g,i * 4+3,aj⟩ (U Z y4))=w3 at *;clear f gl ce0 ce1 ce2 ce3 ix;go_wp2
     go_roundw
     case rel=>exact⟨i+1,j+1,L.set i (y1,y2,(yo,yn,yc),y4),by go_num,by go_num,by omega,ST.out.keep HY.out KP.out,SQ.out.1,SQ.out.2.2 B w BG.out (BE.out.trans (BB.out.mono (ak HB.out OF.out.2))),⟨fun q hq hne=>(SQ.out.2.1.1 q (ah (ah hq OF.out.2) BB.out.size) (fun e=>hne (by rw [e]))).trans ((BB.out.block q (ah hq OF.out.2)).trans (OF.out.1 q hq hne)),ak OF.out.2 (ak BB.out.size SQ.out.2.1.2)⟩⟩
     case measure=>simp [intOf]; omega
    ·go_wp2
     go_roundw
     case rel=>exact⟨i,j+1,L,rfl,by go_num,by omega,ST.out.skip HY.out KP.out,O2.out,BE.out.trans (BB.out.mono (ak HB.out OF.out.2)),⟨fun q hq hne=>(BB.out.block q (ah hq OF.out.2)).trans (OF.out.1 q hq hne),ak OF.out.2 BB.out.size⟩⟩
     case measure=>simp [intOf]; omega
   ·obtain rfl:n=j:=by omega
    obtain⟨W',hr,h1,h2,h3⟩:=Fj okD (by decide) OW.out hij (ty:=0);have sh:=iE (E:=ED) okD g i n sc (by omega) (by omega);have sl:=kP (E:=ED) okD ⟨g,0,aj⟩ i n sc (by omega);have sh:∀ w,(aX 23 (J (au ⟨g,0,aj⟩) n sc) (au (U Z i)) aj aj).run aB w=.ok (J (au ⟨g,i * 4,aj⟩) (n-i) (sc-i)) w:=sh;have sl:∀ w,(aX 23 (J (au ⟨g,0,aj⟩) n sc) aj (au (U Z i)) aj).run aB w=.ok (J (au ⟨g,0,aj⟩) i sc) w:=sl;have hr:(aW #[23] 0 #[J (au ⟨g,i * 4,aj⟩) (n-i) (sc-i)]).run aB wr=.ok (.tuple #[]) W':=hr;have Q:=O (show (∃ v':Sl,aC (J (au ⟨g,0,aj⟩) i sc)=aC (dY v')/\Own ED W' B (dY v') (l.filter (keepD c d)))/\Below B w W'/\Off (dY (au ⟨g,0,aj⟩,n,sc)).ownBlock w W' from ⟨⟨(au ⟨g,0,aj⟩,i,sc),rfl,by
     have e1:l.take n=l:=bg (by rw [HN.out]; exact aO _);have e2:=ST.out.lo;rw [e1] at e2;rw [<- e2];exact h1⟩,h3 B w BG.out BE.out,⟨fun q hq hne=>(h2.1 q (ah hq OF.out.2) (fun e=>hne (by rw [e]; rfl))).trans (OF.out.1 q hq hne),ak OF.out.2 h2.2⟩⟩)
    clear h1 h2 h3 hlt;go_wp2_with (first | (at_builtin; refine yY rfl _ _ 23 rfl rfl rfl hr ?_) | fail);go_ret;exact Q.out
abbrev xG (x:iH):fD:=(x.1,x.2.1)
theorem Fp:∀ (l:List iH) (k:Nat) (x:iH),k<l.length->flat EN (l.set k x)=((((((((flat EN l).set (k * 7) (U Z x.1)).set (k * 7+1) (U Z x.2.1)).set (k * 7+2) (U Z x.2.2.1)).set (k * 7+3) (U Z x.2.2.2.1)).set (k * 7+4) (dY x.2.2.2.2.1)).set (k * 7+5) (U Z x.2.2.2.2.2.1)).set (k * 7+6) (aY x.2.2.2.2.2.2))
 | [],k,x,h=>by simp at h
 | y::r,0,x,_=>rfl
 | y::r,k+1,x,h=>by
  have ih:=Fp r k x (by simpa using h);rw [show (k+1) * 7+6=(k * 7+6)+1+1+1+1+1+1+1 by omega,show (k+1) * 7+5=(k * 7+5)+1+1+1+1+1+1+1 by omega,show (k+1) * 7+4=(k * 7+4)+1+1+1+1+1+1+1 by omega,show (k+1) * 7+3=(k * 7+3)+1+1+1+1+1+1+1 by omega,show (k+1) * 7+2=(k * 7+2)+1+1+1+1+1+1+1 by omega,show (k+1) * 7+1=(k * 7+1)+1+1+1+1+1+1+1 by omega,show (k+1) * 7=(k * 7)+1+1+1+1+1+1+1 by omega];simp only [List.set_cons_succ,flat,EN,jO,List.cons_append,List.nil_append] at ih ⊢;rw [ih]
theorem alf {w:aG} {B g n cap k:Nat} {l:List iH} (x:iH) (h:Own EN w B (J (au ⟨g,0,aj⟩) n cap) l) (hk:k<l.length) :
  MS EN B g (J (au ⟨g,0,aj⟩) n cap) (l.set k x) w (((((((w.setCell ⟨g,k * 7,aj⟩ (U Z x.1)).setCell ⟨g,k * 7+1,aj⟩ (U Z x.2.1)).setCell ⟨g,k * 7+2,aj⟩ (U Z x.2.2.1)).setCell ⟨g,k * 7+3,aj⟩ (U Z x.2.2.2.1)).setCell ⟨g,k * 7+4,aj⟩ (dY x.2.2.2.2.1)).setCell ⟨g,k * 7+5,aj⟩ (U Z x.2.2.2.2.2.1)).setCell ⟨g,k * 7+6,aj⟩ (aY x.2.2.2.2.2.2)):=by
 have hln:=iC h;subst hln;have h:w.ownsRow B 66 7 (J (au ⟨g,0,aj⟩) l.length cap) l.length (flat EN l):=h;have s1:=(h.stored (k * 7) (U Z x.1)).1;have s2:=(s1.stored (k * 7+1) (U Z x.2.1)).1;have s3:=(s2.stored (k * 7+2) (U Z x.2.2.1)).1;have s4:=(s3.stored (k * 7+3) (U Z x.2.2.2.1)).1;have s5:=(s4.stored (k * 7+4) (dY x.2.2.2.2.1)).1;have s6:=(s5.stored (k * 7+5) (U Z x.2.2.2.2.2.1)).1;have s7:=(s6.stored (k * 7+6) (aY x.2.2.2.2.2.2)).1;refine⟨?_,(((((((dQ _ g _ _).trans (dQ _ g _ _)).trans (dQ _ g _ _)).trans (dQ _ g _ _)).trans (dQ _ g _ _)).trans (dQ _ g _ _)).trans (dQ _ g _ _)),fun B' W hB hb=>(((((((hb.setCell (p:=⟨g,_,aj⟩) hB _).setCell (p:=⟨g,_,aj⟩) hB _).setCell (p:=⟨g,_,aj⟩) hB _).setCell (p:=⟨g,_,aj⟩) hB _).setCell (p:=⟨g,_,aj⟩) hB _).setCell (p:=⟨g,_,aj⟩) hB _).setCell (p:=⟨g,_,aj⟩) hB _)⟩;have e:=Fp l k x hk;show World.ownsRow _ B 66 7 _ (l.set k x).length (flat EN (l.set k x));rw [e,bD];exact s7
theorem JV (x:iH) (b2:Nat) (c d:Int) (r:Bool) (hr:decide (xG x=(c,d))=r) (w:aG) (h:dJ w b2 #[U Z c,U Z d] 31):bJ aB 99 #[nW x,ay (au ⟨b2,0,aj⟩)] w fun e w'=>e=aC (aY r)/\Below w.heap.size w w':=by
 obtain⟨y1,y2,y3,y4,⟨yo,yn,yc⟩,y6,y7⟩:=x;have n0:=fF w (aM #[U Z y1,U Z y2,U Z y3,U Z y4,J yo yn yc,U Z y6,aY y7] 66);have hx:=dO w #[U Z y1,U Z y2,U Z y3,U Z y4,J yo yn yc,U Z y6,aY y7] 66;have x1:=hx.cell 1;have x0:=hx.cell 0;obtain⟨z0,z1⟩:=(h.on n0).cs2;simp only [aF,aJ,aK] at x0 x1;have he:=tF y1 y2 c d r (by
  rw [<- hr];by_cases h1:y1=c <;> by_cases h2:y2=d <;> simp [h1,h2])
 have N0:=O n0;clear n0 hx h hr;go_enter Tryz.func99,Tryz.ntmps99;go_wp2;go_ret;exact⟨rfl,N0.out⟩
theorem Vs (v:Sl) (l:List iH) (b2:Nat) (c d:Int) (w:aG) (hs:Row EN w (dY v) l) (hb2:dJ w b2 #[U Z c,U Z d] 31) :
  bJ aB 149 #[dY v,.func (.func 99) #[] #[ay (au ⟨b2,0,aj⟩)]] w fun e w'=>e=aC (U Z (fM (l.map xG) (c,d)))/\Below w.heap.size w w':=by
 obtain⟨so,sn,sc⟩:=v;obtain⟨ao,ac,hv⟩:=hs.len;have hv:J so sn sc=J ao l.length ac:=hv;obtain⟨rfl,rfl,rfl⟩:so=ao/\sn=l.length/\sc=ac:=by simpa using hv
 have HS:=O hs;have X2:=O hb2;have lm:=hs.most;unfold maxLen at lm;obtain⟨n,hn⟩:∃ n,n=l.length:=⟨_,rfl⟩;rw [<- hn] at HS lm ⊢;have HN:=O hn.symm;clear hb2 hs hv hn;go_enter Tryz.func149,Tryz.ntmps149;go_wp2
 go_loopw [8] (fun i wr=>∃ k:Nat,k<=n/\i=U Z k/\Below w.heap.size w wr/\∀ (j:Nat) (y:iH),j<k->l[j]?=au y->xG y≠(c,d)) (fun i _=>n-(intOf i).toNat)
 case atStart=>exact⟨0,bZ _,rfl,aP _ _,fun j y h=>by omega⟩
 case round =>
  obtain⟨k,hk,rfl,hbe,hall⟩:=hrel;have BE:=O hbe;have AL:=O hall;clear hbe hall;by_cases hlt:k<n
  ·obtain⟨y,hy⟩:∃ y,l[k]?=au y:=⟨_,aH (by rw [HN.out]; exact hlt)⟩;obtain⟨p,ix,px⟩:=LK HS.out rfl HN.out hy;obtain⟨p0,p1,p2,p3,p4,p5,p6⟩:=px wr BE.out;obtain⟨r,hr⟩:∃ r,decide (xG y=(c,d))=r:=⟨_,rfl⟩;have CL:=O (JV y b2 c d r hr wr (X2.out.on BE.out));have HY:=O hy;have HR:=O hr;obtain⟨y1,y2,y3,y4,⟨yo,yn,yc⟩,y6,y7⟩:=y;simp only at p0 p1 p2 p3 p4 p5 p6;have hw3:IntKind.i64.wrap ((k:Int)+1)=(k:Int)+1:=aN _ (by omega);clear px hy hr;go_wp2_with fail;refine CL.out.mono ?_;rintro e w1 ⟨rfl,hb⟩;have B1:=O (BE.out.trans (hb.mono BE.out.size));clear hb CL ix p0 p1 p2 p3 p4 p5 p6;cases r
   ·go_wp2
    go_roundw
    case rel=>exact⟨k+1,by omega,by go_num,B1.out,fun j y' hj h1=>by
     rcases bU j k with h3|h3
     ·exact AL.out j y' h3 h1
     ·obtain rfl:j=k:=by omega
      have e1:=HY.out;rw [h1] at e1;rw [aI e1];exact of_decide_eq_false HR.out⟩
    case measure=>simp [intOf]; omega
   ·go_wp2;go_ret;exact⟨by rw [BP (l.map xG) k (c,d) (by rw [aA,HY.out]; exact congrArg au (of_decide_eq_true HR.out)) (fun j z hj hz=>by
     rw [aA] at hz;cases hz2:l[j]? with
     | none=>rw [hz2] at hz; cases hz
     | some u=>rw [hz2] at hz; rw [<- aI hz]; exact AL.out j u hj hz2)]; rfl,B1.out⟩
  ·obtain rfl:k=n:=by omega
   go_wp2;go_ret;exact⟨by rw [wE (l.map xG) (c,d) (fun j z hz=>by
     rw [aA] at hz;cases hz2:l[j]? with
     | none=>rw [hz2] at hz; cases hz
     | some u=>rw [hz2] at hz; rw [<- aI hz]; exact AL.out j u (by rw [<- HN.out]; exact (aD.1 hz2).1) hz2)]; rfl,BE.out⟩
abbrev pJ (c d:Int) (x:iH):Bool:=decide (xG x≠(c,d))
theorem Vt (B:Nat) (v:Sl) (l:List iH) (b2:Nat) (c d:Int) (w:aG) (ho:Own EN w B (dY v) l) (hb2:dJ w b2 #[U Z c,U Z d] 31) (hB:B<=w.heap.size) :
  bJ aB 98 #[dY v,.func (.func 99) #[] #[ay (au ⟨b2,0,aj⟩)]] w fun e w'=>(∃ v':Sl,e=aC (dY v')/\Own EN w' B (dY v') (l.filter (pJ c d)))/\Below B w w'/\Off (dY v).ownBlock w w':=by
 obtain⟨so,sn,sc⟩:=v;obtain⟨ao,ac,hv⟩:=(aQ ho).len;have hv:J so sn sc=J ao l.length ac:=hv;obtain⟨rfl,rfl,rfl⟩:so=ao/\sn=l.length/\sc=ac:=by simpa using hv
 have IX:=O (Vs (so,l.length,sc) l b2 c d w (aQ ho) hb2);have HO:=O ho;have X2:=O hb2;have lm:=(aQ ho).most;unfold maxLen at lm;have BZ:=O (show w.heap.size<=w.heap.size from aO _);obtain⟨n,hn⟩:∃ n,n=l.length:=⟨_,rfl⟩;rw [<- hn] at HO lm IX ⊢;have HN:=O hn.symm;obtain⟨q,hq⟩:∃ q,fM (l.map xG) (c,d)=q:=⟨_,rfl⟩;rw [hq] at IX;have HQ:=O hq;have HB:=O hB;have LB:=O (show ∀ g,(dY (so,n,sc)).ownBlock=au g->B<=g from fun g hg=>(HO.out.lt g hg).1);clear hb2 ho hv hn hB;by_cases hneg:q=-1
 ·subst hneg;go_enter cB,bX;go_wp2_with fail;refine IX.out.mono ?_;rintro e w1 ⟨rfl,hb⟩;have FE:=O (show l.filter (pJ c d)=l from by
   rw [aV];intro y hy;obtain⟨j,hj⟩:=aT.1 hy;exact decide_eq_true (uX hq j y hj))
  have BH:=O hb;clear hb hq;go_wp2;go_ret;exact⟨⟨(so,n,sc),rfl,by rw [FE.out]; exact Bk.dI HO.out BH.out⟩,BH.out.mono HB.out,fun j hj _=>BH.out.block j hj,BH.out.size⟩
 ·obtain⟨k,rfl⟩:∃ k:Nat,q=k:=⟨q.toNat,by have:=nK (l.map xG) (c,d); omega⟩;obtain⟨g1,g2⟩:=qZ hq;obtain⟨x,hx,hxk⟩:∃ x,l[k]?=au x/\xG x=(c,d):=by
   rw [aA] at g1;cases hz:l[k]? with
   | none=>rw [hz] at g1; cases g1
   | some x=>rw [hz] at g1; exact⟨x,rfl,aI g1⟩
  have ST0:=O (xE (keep:=pJ c d) hx (decide_eq_false (by simp [hxk])) (fun j y hj hy=>decide_eq_true (g2 j (xG y) hj (by rw [aA,hy]; rfl))));have hkl:k<n:=by rw [<- HN.out]; exact (aD.1 hx).1
  obtain⟨g,rfl,hBg⟩:∃ g,so=au ⟨g,0,aj⟩/\B<=g:=uf HO.out (show 0<n by omega);have BG:=O hBg;have TG:=O (kK HO.out);have hcap:n<=sc:=by
   rcases gX HO.out with⟨h1,_⟩|⟨g',c',cur,h1,h2,h3,h4,h5,h6,h7⟩
   ·cases h1
   ·have e1:sc=c':=by simpa using congrArg (fun v=>match v with | Value.slice _ _ c=>c | _=>0) h1
    have:=HN.out;omega
  have hw0:IntKind.i64.wrap ((k:Int)+1)=(k:Int)+1:=aN _ (by omega);have hk1:((k:Int) == -1)=aU:=by rw [beq_eq_false_iff_ne]; omega
  clear hq g1 g2 hx hxk x hneg hBg LB;go_enter cB,bX;go_wp2_with fail;refine IX.out.mono ?_;rintro e w1 ⟨rfl,hb⟩;have O1:=O (Bk.dI HO.out hb);have B1:=O (hb.mono HB.out);have F1:=O (show Off (au g) w w1 from ⟨fun j hj _=>hb.block j hj,hb.size⟩);clear hb IX;go_wp2;clear hw0 hk1
  go_loopw [5,6] (fun s5 s6 wr=>∃ (i j:Nat) (L:List iH),s5=U Z i/\s6=U Z j/\j<=n/\ug (pJ c d) l i j L/\Own EN wr B (J (au ⟨g,0,aj⟩) n sc) L/\Below B w wr/\Off (au g) w wr) (fun _ s6 _=>n-(intOf s6).toNat)
  case atStart=>exact⟨k,k+1,l,rfl,by go_num,by omega,ST0.out,O1.out,B1.out,F1.out⟩
  case round =>
   obtain⟨i,j,L,rfl,rfl,hj,hst,how,hbe,hof⟩:=hrel;have ST:=O hst;have OW:=O how;have BE:=O hbe;have OF:=O hof;have hij:=hst.lt;have LN:=O (show L.length=n from hst.len.trans HN.out);clear hst how hbe hof O1 B1 F1 ST0;by_cases hlt:j<n
   ·obtain⟨y,hy⟩:∃ y,l[j]?=au y:=⟨_,aH (by rw [HN.out]; exact hlt)⟩;have hyL:L[j]?=au y:=by rw [ST.out.at,hy]
    obtain⟨p,ix,px⟩:=LK (aQ OW.out) rfl LN.out hyL;obtain⟨p0,p1,p2,p3,p4,p5,p6⟩:=px wr (aP _ _);obtain⟨r,hr⟩:∃ r,decide (xG y=(c,d))=r:=⟨_,rfl⟩;have HY:=O hy;have hw3:IntKind.i64.wrap ((j:Int)+1)=(j:Int)+1:=aN _ (by omega);have hw5:IntKind.i64.wrap ((i:Int)+1)=(i:Int)+1:=aN _ (by omega);obtain⟨z,hz⟩:∃ z,L[i]?=au z:=⟨_,aH (by rw [LN.out]; omega)⟩;have HZ:=O hz;have X2w:=OF.out.box X2.out TG.out (by decide);have CLO:=JV y b2 c d r hr;have KP:=O (show pJ c d y=!r from by rw [<- hr]; simp [pJ]);obtain⟨y1,y2,y3,y4,⟨yo,yn,yc⟩,y6,y7⟩:=y;simp only at p0 p1 p2 p3 p4 p5 p6;have NB:=O (fF wr (aM #[U Z y1,U Z y2,U Z y3,U Z y4,J yo yn yc,U Z y6,aY y7] 66));have CL:=O (CLO _ (X2w.on NB.out));clear hy hyL px hr hz CLO X2w;go_wp2_with fail;refine CL.out.mono ?_;rintro e w2 ⟨rfl,hb⟩;have BB:=O (NB.out.trans (hb.mono NB.out.size));have Y7:=(dO wr #[U Z y1,U Z y2,U Z y3,U Z y4,J yo yn yc,U Z y6,aY y7] 66).on hb;obtain⟨q0,q1,q2,q3,q4,q5,q6⟩:=Y7.nJ;have O2:=O (Bk.dI OW.out BB.out);clear hb CL ix p0 p1 p2 p3 p4 p5 p6 Y7;cases r
    ·have ix:=lJ nX g i n sc (by omega);have ix:∀ w,(bQ 25 (J (au ⟨g,0,aj⟩) n sc) (U Z i)).run aB w=.ok (ay (au ⟨g,i * 7,aj⟩)) w:=ix;have ca:=jP nX O2.out HZ.out w2 (aP _ _);have ce0:=ca 0 _ rfl;have ce1:=ca 1 _ rfl;have ce2:=ca 2 _ rfl;have ce3:=ca 3 _ rfl;have ce4:=ca 4 _ rfl;have ce5:=ca 5 _ rfl;have ce6:=ca 6 _ rfl;simp [Addr.add,EN] at ce0 ce1 ce2 ce3 ce4 ce5 ce6;obtain⟨cur,hbx⟩:=jU O2.out;have f:=fun j=>hbx.fr j;have gl:=hbx.lt;have SQ:MS EN B g (J (au ⟨g,0,aj⟩) n sc) (L.set i (y1,y2,y3,y4,(yo,yn,yc),y6,y7)) w2 (((((((w2.setCell ⟨g,i * 7,aj⟩ (U Z y1)).setCell ⟨g,i * 7+1,aj⟩ (U Z y2)).setCell ⟨g,i * 7+2,aj⟩ (U Z y3)).setCell ⟨g,i * 7+3,aj⟩ (U Z y4)).setCell ⟨g,i * 7+4,aj⟩ (J yo yn yc)).setCell ⟨g,i * 7+5,aj⟩ (U Z y6)).setCell ⟨g,i * 7+6,aj⟩ (aY y7)):=alf (y1,y2,y3,y4,(yo,yn,yc),y6,y7) O2.out (by rw [LN.out]; omega);have SQ:=O SQ;clear hbx ca;go_upto_region 10 with fail;generalize (((((((w2.setCell ⟨g,i * 7,aj⟩ (U Z y1)).setCell ⟨g,i * 7+1,aj⟩ (U Z y2)).setCell ⟨g,i * 7+2,aj⟩ (U Z y3)).setCell ⟨g,i * 7+3,aj⟩ (U Z y4)).setCell ⟨g,i * 7+4,aj⟩ (J yo yn yc)).setCell ⟨g,i * 7+5,aj⟩ (U Z y6)).setCell ⟨g,i * 7+6,aj⟩ (aY y7))=w3 at *;clear f gl ce0 ce1 ce2 ce3 ce4 ce5 ce6 ix;go_wp2
     go_roundw
     case rel=>exact⟨i+1,j+1,L.set i (y1,y2,y3,y4,(yo,yn,yc),y6,y7),by go_num,by go_num,by omega,ST.out.keep HY.out KP.out,SQ.out.1,SQ.out.2.2 B w BG.out (BE.out.trans (BB.out.mono (ak HB.out OF.out.2))),⟨fun q hq hne=>(SQ.out.2.1.1 q (ah (ah hq OF.out.2) BB.out.size) (fun e=>hne (by rw [e]))).trans ((BB.out.block q (ah hq OF.out.2)).trans (OF.out.1 q hq hne)),ak OF.out.2 (ak BB.out.size SQ.out.2.1.2)⟩⟩
     case measure=>simp [intOf]; omega
    ·go_wp2
     go_roundw
     case rel=>exact⟨i,j+1,L,rfl,by go_num,by omega,ST.out.skip HY.out KP.out,O2.out,BE.out.trans (BB.out.mono (ak HB.out OF.out.2)),⟨fun q hq hne=>(BB.out.block q (ah hq OF.out.2)).trans (OF.out.1 q hq hne),ak OF.out.2 BB.out.size⟩⟩
     case measure=>simp [intOf]; omega
   ·obtain rfl:n=j:=by omega
    obtain⟨W',hr,h1,h2,h3⟩:=Fj nX (by decide) OW.out hij (ty:=0);have sh:=iE (E:=EN) nX g i n sc (by omega) (by omega);have sl:=kP (E:=EN) nX ⟨g,0,aj⟩ i n sc (by omega);have sh:∀ w,(aX 25 (J (au ⟨g,0,aj⟩) n sc) (au (U Z i)) aj aj).run aB w=.ok (J (au ⟨g,i * 7,aj⟩) (n-i) (sc-i)) w:=sh;have sl:∀ w,(aX 25 (J (au ⟨g,0,aj⟩) n sc) aj (au (U Z i)) aj).run aB w=.ok (J (au ⟨g,0,aj⟩) i sc) w:=sl;have hr:(aW #[25] 0 #[J (au ⟨g,i * 7,aj⟩) (n-i) (sc-i)]).run aB wr=.ok (.tuple #[]) W':=hr;have Q:=O (show (∃ v':Sl,aC (J (au ⟨g,0,aj⟩) i sc)=aC (dY v')/\Own EN W' B (dY v') (l.filter (pJ c d)))/\Below B w W'/\Off (dY (au ⟨g,0,aj⟩,n,sc)).ownBlock w W' from ⟨⟨(au ⟨g,0,aj⟩,i,sc),rfl,by
     have e1:l.take n=l:=bg (by rw [HN.out]; exact aO _);have e2:=ST.out.lo;rw [e1] at e2;rw [<- e2];exact h1⟩,h3 B w BG.out BE.out,⟨fun q hq hne=>(h2.1 q (ah hq OF.out.2) (fun e=>hne (by rw [e]; rfl))).trans (OF.out.1 q hq hne),ak OF.out.2 h2.2⟩⟩)
    clear h1 h2 h3 hlt;go_wp2_with (first | (at_builtin; refine yY rfl _ _ 25 rfl rfl rfl hr ?_) | fail);go_ret;exact Q.out
def Pq (B:Nat) (b1 _b2:Nat) (_me:Int) (_z1:aS) (o2:Option cK) (n2 c2:Nat) (_z3 _z4 _z5:aS) (y1 y2:Int) (yo:Option cK) (yn yc:Nat) (y4:Int) (p:List C5) (i:Nat) (v:aS) (x:aG):Prop :=
 match i with
 | 0=>v=ay (au ⟨b1,2,aj⟩)
 | 1=>v=J o2 n2 c2
 | 2=>v=.agg #[U Z y1,U Z y2,J yo yn yc,U Z y4]
 | 3=>∃ s:Sl,v=lX (y1,y2,s,y4)/\iq x B (dY s) p
 | _=>True
noncomputable def abM:Code:=((Tryz.f35.body.bind (eO 4)).getD .skip)
theorem Vu (B:Nat) (b1 b2:Nat) (me:Int) (z1:aS) (o2:Option cK) (n2 c2:Nat) (z3 z4 z5:aS) (y1 y2:Int) (yo:Option cK) (yn yc:Nat) (y4:Int) (p:List C5) (i:Nat) (v:aS) (x x':aG) (h:Pq B b1 b2 me z1 o2 n2 c2 z3 z4 z5 y1 y2 yo yn yc y4 p i v x) (hb:Below x.heap.size x x'):Pq B b1 b2 me z1 o2 n2 c2 z3 z4 z5 y1 y2 yo yn yc y4 p i v x':=by
 by_cases hi:i<4
 ·rcases (by omega:i=0\/i=1\/i=2\/i=3) with rfl|rfl|rfl|rfl
  ·exact h
  ·exact h
  ·exact h
  ·obtain⟨s,h1,h2⟩:=h; exact⟨s,h1,Bk.dI h2 hb⟩
 ·unfold Pq
  split <;> first | omega | trivial
theorem alg (Q:Exit->Act->aG->Prop) (W:aG) (B0:Nat) (l:List jv) (b1 b2:Nat) (me:Int) (z1:aS) (o2:Option cK) (n2 c2:Nat) (z3 z4 z5:aS) (y1 y2:Int) (yo:Option cK) (yn yc:Nat) (y4:Int) (p:List C5) (u0 u1 u4 u5 u6 u7 u8 u9 u10 u11 u12 u13 u14 u15 u16 u17 u18 u19 u20 u21 u22 u23 u24 u25:aS)
  (h1:dJ W b1 #[U Z me,z1,J o2 n2 c2,z3,z4,z5] 28) (h2:dJ W b2 #[U Z y1,U Z y2,J yo yn yc,U Z y4] 74) (ho:lY W B0 (J o2 n2 c2) l) (hr:lC jw l) (hl:l.length<=900) (hB:B0<=W.heap.size) (hb0:b1<B0) (hp:fK W (J yo yn yc) p) (lp:p.length<=900)
  (hQ:∀ (w1:aG) (v13 v14 v15 v16 v17 v18:aS) (s1:Option cK) (s2 s3:Nat) (t1:Option cK) (t2 t3:Nat),dJ w1 b1 #[U Z me,z1,J o2 n2 c2,z3,z4,z5] 28->lY w1 B0 (J t1 t2 t3) (gT l (gF jw l (y1,y2)) (y1,y2,(s1,s2,s3),y4))->iq w1 W.heap.size (J s1 s2 s3) p->Off (dY (o2,n2,c2)).ownBlock W w1->Below B0 W w1->Q .normal ⟨(u0::u1::ay (au ⟨b1,0,aj⟩)::ay (au ⟨b2,0,aj⟩)::u4::u5::u6::u7::u8::u9::u10::u11::u12::v13::v14::v15::v16::v17::v18::u19::u20::u21::u22::u23::u24::u25::[]).toArray,[]⟩ (w1.setCell ⟨b1,2,aj⟩ (J t1 t2 t3))) :
  Code.wp aB abM Q ⟨(u0::u1::ay (au ⟨b1,0,aj⟩)::ay (au ⟨b2,0,aj⟩)::u4::u5::u6::u7::u8::u9::u10::u11::u12::u13::u14::u15::u16::u17::u18::u19::u20::u21::u22::u23::u24::u25::[]).toArray,[]⟩ W:=by
 have HQ:=O hQ;have H1:=O h1;have H2:=O h2;have HO:=O ho;have HR:=O hr;have HL:=O hl;have HB:=O hB;have H0:=O hb0;have HP:=O hp;have LP:=O lp;clear hQ h1 h2 ho hr hl hB hb0 hp lp;have iO:=Vu W.heap.size b1 b2 me z1 o2 n2 c2 z3 z4 z5 y1 y2 yo yn yc y4 p;unfold abM
 conv=>arg 2; whnf
 have nd:∀ j,(j<13\/17<=j)->∀ i,i<4->(fun i=>13+i) i≠j:=by
  intro j hj i hi h;simp only at h;omega
 refine Rg.fQ 7 4 (fun i=>13+i) (fun _=>4) (Pq W.heap.size b1 b2 me z1 o2 n2 c2 z3 z4 z5 y1 y2 yo yn yc y4 p) (by kernel_rfl) (by kernel_rfl) rfl (by decide) (fun i j _ _ h=>by have h2:13+i=13+j:=h; omega) (fun i hi=>by show 13+i<26; omega) ?_ (fun _=>Rg.jq 14 (by kernel_rfl)) ?_ ?_
 ·intro i o hi ho a x D hnd hc hD hb seen K hK;clear HQ;rcases (by omega:i=0\/i=1\/i=2\/i=3) with rfl|rfl|rfl|rfl
  ·cases ho;have e2:a.eval (.tmp 2)=ay (au ⟨b1,0,aj⟩):=seen.kp 2 _ (nd 2 (by omega)) rfl;exact Rg.dD rfl rfl (Rg.dW a.eval _ 28 (.tmp 2) 2 rfl (by rw [e2]; simp [go_sem])) (hK _ _ rfl (aP _ _) fun _ _ _ _ _ _ _ h=>h)
  ·cases ho;have e13:a.eval (.tmp 13)=ay (au ⟨b1,2,aj⟩):=seen.at_ ⟨0,.data⟩ (by simp) rfl (Or.inr (by decide));have y2:=(H1.out.on hb).cell 2;simp only [aF,aJ,aK] at y2;exact Rg.dD rfl rfl (Rg.dR a.eval _ 23 (.tmp 13) rfl (by rw [e13]; simp [go_sem,y2])) (hK _ _ rfl (aP _ _) fun _ _ _ _ _ _ _ h=>h)
  ·cases ho;have e3:a.eval (.tmp 3)=ay (au ⟨b2,0,aj⟩):=seen.kp 3 _ (nd 3 (by omega)) rfl;obtain⟨y0,y1,y2,y3⟩:=(H2.out.on hb).Ak;exact Rg.dD rfl rfl (Rg.dR a.eval _ 74 (.tmp 3) rfl (by rw [e3]; simp [go_sem,y0,y1,y2,y3])) (hK _ _ rfl (aP _ _) fun _ _ _ _ _ _ _ h=>h)
  ·cases ho;have e15:a.eval (.tmp 15)=.agg #[U Z y1,U Z y2,J yo yn yc,U Z y4]:=seen.at_ ⟨2,.data⟩ (by simp) rfl (Or.inr (by decide));exact Rg.gL rfl rfl (Rw.iB a.eval _ (.tmp 15) 74 79 rfl e15 rfl _ (gD Tryz.func79 rfl rfl _ _)) (Bp (y1,y2,(yo,yn,yc),y4) p x (HP.out.on hb) LP.out) fun e w1 h=>by
    obtain⟨⟨s,rfl,h1⟩,h3⟩:=h;exact⟨_,rfl,hK _ _ ⟨s,rfl,dM h1 hb.size⟩ (h3.mono hb.size) fun j u hj _ _ _ hne h=>iO j u _ _ h h3⟩
 ·intro kk o h1 h2 ho;rcases (by omega:kk=5\/kk=6) with rfl|rfl
  ·cases ho;exact⟨⟨4,.phase⟩,by simp,rfl,rfl⟩
  ·cases ho;exact⟨⟨5,.data⟩,by simp,rfl,rfl⟩
 ·intro a w' df sz kp ⟨vs,hv⟩ hb;have sz':a.tmps.size=26:=sz;have g2:a.tmps[2]?=au (ay (au ⟨b1,0,aj⟩)):=(kp 2 (nd 2 (by omega))).trans rfl;have g14:a.tmps[14]?=au (J o2 n2 c2):=by
   have h:vs 1=J o2 n2 c2:=(hv 1 (by omega)).2 (by decide);rw [<- h];exact (hv 1 (by omega)).1
  obtain⟨⟨s1,s2,s3⟩,hs,hc⟩:=(hv 3 (by omega)).2 (by decide);have g16:a.tmps[16]?=au (lX (y1,y2,(s1,s2,s3),y4)):=((hv 3 (by omega)).1).trans (congrArg au hs);have B1:=H1.out.on hb;show Rg.fH _ _ _ 3 4 a w';simp only [Rg.fH];refine Rg.gL rfl rfl (yQ a.eval _ (.tmp 14) (.tmp 16) (.func 58) 23 74 106 92 rfl (Rg.dL g14) (Rg.dL g16) rfl rfl _ (gD bY rfl rfl _ _)) (Vp B0 (o2,n2,c2) l (y1,y2,(s1,s2,s3),y4) w' (Bk.dI HO.out hb) HR.out HL.out (ak HB.out hb.size)) fun e w1 h=>?_;obtain⟨⟨⟨t1,t2,t3⟩,rfl,hown⟩,hbel,hoth⟩:=h;refine⟨_,rfl,?_⟩;have alh:(a.put (au 17) (J t1 t2 t3)).tmps[17]?=au (J t1 t2 t3):=by simp [Act.put,sz']
  show Go.wpOp _ _ _ 5 _ (a.put (au 17) (J t1 t2 t3)) _;refine Rg.dD rfl rfl (Rg.dW _ _ 28 (.tmp 2) 2 rfl (v:=ay (au ⟨b1,2,aj⟩)) (by rw [Rg.dL ((Rg.get_put _ 17 _ 2 (by decide)).trans g2)]; simp [go_sem])) ?_;have ali:((a.put (au 17) (J t1 t2 t3)).put (au 18) (ay (au ⟨b1,2,aj⟩))).tmps[18]?=au (ay (au ⟨b1,2,aj⟩)):=by simp [Act.put,sz']
  show Go.wpOp _ _ _ 6 _ ((a.put (au 17) (J t1 t2 t3)).put (au 18) (ay (au ⟨b1,2,aj⟩))) _;have B2:dJ w1 b1 _ _:=(hbel.block b1 H0.out).trans B1;have cx:=B2.cell 2;have fx:=B2.fr 2;simp only [aF,aJ,aK] at cx;refine Rg.fT 23 (.tmp 18) (.tmp 17) rfl rfl rfl rfl (Rg.dL ali) (Rg.dL ((Rg.get_put _ 18 _ 17 (by decide)).trans alh)) (w':=w1.setCell ⟨b1,2,aj⟩ (J t1 t2 t3)) (by simp [go_sem,cx,fx]) ?_;have of1:Off (dY (o2,n2,c2)).ownBlock w' w1:=⟨hoth,hbel.size⟩;have of2:Off (dY (o2,n2,c2)).ownBlock W w1:=⟨fun j hj hne=>(hoth j (ah hj hb.size) hne).trans (hb.block j hj),ak hb.size hbel.size⟩;have qI:∀ j,(j<13\/19<=j)->((a.put (au 17) (J t1 t2 t3)).put (au 18) (ay (au ⟨b1,2,aj⟩))).tmps[j]?=(u0::u1::ay (au ⟨b1,0,aj⟩)::ay (au ⟨b2,0,aj⟩)::u4::u5::u6::u7::u8::u9::u10::u11::u12::u13::u14::u15::u16::u17::u18::u19::u20::u21::u22::u23::u24::u25::[])[j]?:=fun j hj=>(Rg.get_put _ 18 _ j (by omega)).trans ((Rg.get_put _ 17 _ j (by omega)).trans ((kp j (nd j (by omega))).trans aF));obtain⟨mid,hmid,hfr⟩:=Rg.gJ (a:=(a.put (au 17) (J t1 t2 t3)).put (au 18) (ay (au ⟨b1,2,aj⟩))) 13 6 df (by simp [Rg.size_put,sz']) (by simp) qI;show Q .normal ((a.put (au 17) (J t1 t2 t3)).put (au 18) (ay (au ⟨b1,2,aj⟩))) _;rw [hfr]
  match mid,hmid with
  | [v13,v14,v15,v16,v17,v18],_ =>
   exact HQ.out w1 _ _ _ _ _ _ s1 s2 s3 t1 t2 t3 B2 hown (of1.own hc (kK (Bk.dI HO.out hb)) (by decide)) of2 ((hb.mono HB.out).trans hbel)
abbrev ql (l:List Ad):Prop:=lC Ad.id l
abbrev Fq (l:List fD):Prop:=lC (fun x:fD=>x) l
def oD (W:aG) (nv:Sl) (l:List Int):Prop:=∃ B,yH W B (dY nv) l
theorem oD.on {W W':aG} {nv:Sl} {l:List Int} (h:oD W nv l) (hb:Below W.heap.size W W'):oD W' nv l:=by obtain⟨B,h⟩:=h; exact⟨B,Bk.dI h hb⟩
def qm (W:aG) (b:Br) (nv av sv ev ov:Sl):Prop:=∃ (V:aG) (B:Nat),Cp (vw V) B W b nv av sv ev ov
theorem qm.on {W W':aG} {b:Br} {nv av sv ev ov:Sl} (h:qm W b nv av sv ev ov) (hb:Below W.heap.size W W'):qm W' b nv av sv ev ov:=by
 obtain⟨V,B,h⟩:=h;exact⟨V,B,h.grow hb⟩
theorem Cp.vbr {V wr:aG} {B:Nat} {b:Br} {nv av sv ev ov:Sl} (h:Cp (vw V) B wr b nv av sv ev ov):iN wr b nv av sv ev ov where
 near:=aQ h.near
 dP:=by obtain⟨l,h1,h2⟩:=h.dP; exact⟨l,aQ h1,h2.mono fun _ _ q=>⟨q.1,q.2.1,q.2.2.elim MU aQ⟩⟩
 seen:=aQ h.seen
 ent:=by obtain⟨l,h1,h2⟩:=h.ent; exact⟨l,aQ h1,h2.mono fun _ _ q=>⟨q.1,q.2.1,q.2.2.1,q.2.2.2.1,q.2.2.2.2.elim MU aQ⟩⟩
 own:=by obtain⟨l,h1,h2⟩:=h.own; exact⟨l,aQ h1,h2.mono fun _ _ q=>⟨q.1,q.2.elim MU aQ⟩⟩
theorem qm.br {W:aG} {b:Br} {nv av sv ev ov:Sl} (h:qm W b nv av sv ev ov):iN W b nv av sv ev ov:=by
 obtain⟨V,B,h⟩:=h;exact h.vbr
theorem qm.no {W:aG} {b:Br} {nv av sv ev ov:Sl} (h:qm W b nv av sv ev ov):oD W nv b.near:=by
 obtain⟨V,B,h⟩:=h;exact⟨B,h.near⟩
theorem qm.yO {W W':aG} {b:Br} {nv av sv ev ov:Sl} (h:qm W b nv av sv ev ov) {g:Nat} {d:Array aS} {t:aZ} (hb:But g W W') (hg:dJ W g d t) (h1:(3 == t)=aU) (h2:(31 == t)=aU) (h3:(74 == t)=aU) (h4:(66 == t)=aU) (h5:(34 == t)=aU) (h6:(70 == t)=aU):qm W' b nv av sv ev ov:=by
 obtain⟨V,B,h⟩:=h;exact⟨V,B,h.yO hb hg h1 h2 h3 h4 h5 h6⟩
def Ib (W:aG) (P R:Prop) (r:Br×Bool) (e:Ending) (w':aG):Prop:=(∃ nv av sv ev ov:Sl,e=aC (.tuple #[mo r.1.me nv av sv ev ov,aY r.2])/\iN w' r.1 nv av sv ev ov/\(P->oD w' nv r.1.near)/\(R\/r.2=cZ->qm w' r.1 nv av sv ev ov))/\Below W.heap.size W w'
theorem uY {b:Br} {a:Ad} (h:a.id∈b.seen):eP b a=(b,aU):=by unfold eP; rw [if_pos h]
theorem wJ {b:Br} {a:Ad} (h:¬ a.id∈b.seen):eP b a=({ b with seen:=gT b.seen (gq b.seen a.id) a.id,dP:=gT b.dP (gq (b.dP.map Ad.id) a.id) a },cZ):=by unfold eP; rw [if_neg h]
theorem RV (b:Br) (a:Ad) (nv av sv ev ov:Sl) (x:jv) (w:aG) (h:iN w b nv av sv ev ov) (ha:sF w x a) (hf:Hq b) (hp:Af b) (hla:a.p.length<=900) (hr1:Fq b.seen) (hr2:ql b.dP) :
  bJ aB 35 #[mo b.me nv av sv ev ov,lX x] w (Ib w (oD w nv b.near) (qm w b nv av sv ev ov) (eP b a)):=by
 obtain⟨no,nn,nc⟩:=nv;obtain⟨ao,an,ac⟩:=av;obtain⟨so,sn,sc⟩:=sv;obtain⟨eo,en,ec⟩:=ev;obtain⟨oo,dU,oc⟩:=ov;obtain⟨y1,y2,⟨yo,yn,yc⟩,y4⟩:=x;obtain⟨h0,h1,h2⟩:=gM w #[U Z b.me,J no nn nc,J ao an ac,J so sn sc,J eo en ec,J oo dU oc] #[U Z y1,U Z y2,J yo yn yc,U Z y4] 28 74;have h3:=fF ((w.alloc (aM #[U Z b.me,J no nn nc,J ao an ac,J so sn sc,J eo en ec,J oo dU oc] 28)).alloc (aM #[U Z y1,U Z y2,J yo yn yc,U Z y4] 74)) (aM #[U Z 0,J aj 0 0,J aj 0 0,J aj 0 0,J aj 0 0,J aj 0 0] 28);have h4:=dO ((w.alloc (aM #[U Z b.me,J no nn nc,J ao an ac,J so sn sc,J eo en ec,J oo dU oc] 28)).alloc (aM #[U Z y1,U Z y2,J yo yn yc,U Z y4] 74)) #[U Z 0,J aj 0 0,J aj 0 0,J aj 0 0,J aj 0 0,J aj 0 0] 28;have hsz:((w.alloc (aM #[U Z b.me,J no nn nc,J ao an ac,J so sn sc,J eo en ec,J oo dU oc] 28)).alloc (aM #[U Z y1,U Z y2,J yo yn yc,U Z y4] 74)).heap.size=w.heap.size+1+1:=by simp
 rw [hsz] at h4;have BB:=O (h0.trans (h3.mono h0.size));have X1:=O (h1.on h3);have X2:=O (h2.on h3);have X3:=O h4;have HH:=O h;have HA:=O ha;have HF:=O hf;have HP:=O hp;have LA:=O hla;have R1:=O hr1;have R2:=O hr2;have ei:a.id=(y1,y2):=ha.1.symm;have SW:=O (Rj b.me (J no nn nc) (J ao an ac) (J eo en ec) (J oo dU oc) (so,sn,sc) b.seen (y1,y2) _ (h.seen.on BB.out));obtain⟨r,hr⟩:∃ r,decide ((y1,y2)∈b.seen)=r:=⟨_,rfl⟩;rw [hr] at SW;have HR:=O hr;have EI:=O ei;obtain⟨x0,x1,x2,x3,x4,x5⟩:=X1.out.eX;obtain⟨d0,d1,d2,d3⟩:=X2.out.Ak;obtain⟨z0,z1,z2,z3,z4,z5⟩:=X3.out.eX;obtain⟨t0,t1,t2,t3,t4,t5⟩:=X3.out.kI;have zz:=X3.out.lt;clear h0 h1 h2 h3 h4 hsz h ha hf hp hla hr1 hr2 hr ei;go_enter Tryz.func35,Tryz.ntmps35;go_wp2_with fail;generalize ((w.alloc (aM #[U Z b.me,J no nn nc,J ao an ac,J so sn sc,J eo en ec,J oo dU oc] 28)).alloc (aM #[U Z y1,U Z y2,J yo yn yc,U Z y4] 74)).alloc (aM #[U Z 0,J aj 0 0,J aj 0 0,J aj 0 0,J aj 0 0,J aj 0 0] 28)=W at *;refine SW.out.mono ?_;rintro e1 w1 ⟨rfl,hb⟩;have B1:=O (BB.out.trans (hb.mono BB.out.size));have Y1:=X1.out.on hb;have Y2:=X2.out.on hb;have Y3:=X3.out.on hb;clear SW hb x0 x1 x2 x3 x4 x5 d0 d1 d2 d3 z0 z1 z2 z3 z4 z5 t0 t1 t2 t3 t4 t5 zz X1 X2 X3;obtain⟨x0,x1,x2,x3,x4,x5⟩:=Y1.eX;obtain⟨z0,z1,z2,z3,z4,z5⟩:=Y3.eX;obtain⟨t0,t1,t2,t3,t4,t5⟩:=Y3.kI;have zz:=Y3.lt;cases r
 ·have nin:¬ a.id∈b.seen:=by rw [EI.out]; exact of_decide_eq_false HR.out
  have LQ:=O (wJ nin);have Z1:=O Y1;have Z2:=O Y2;have Z3:=O Y3;have L1:=O Y1.lt;have L3:=O (show w.heap.size+1<w1.heap.size from Y2.lt);clear z0 z1 z2 z3 z4 z5 t0 t1 t2 t3 t4 t5 zz nin;go_wp2_with fail;refine (uU b (no,nn,nc) (ao,an,ac) (so,sn,sc) (eo,en,ec) (oo,dU,oc) w w1 B1.out HH.out HF.out HP.out).mono ?_;rintro e2 w2 ⟨⟨⟨p1,q1,s1⟩,⟨p2,q2,s2⟩,⟨p3,q3,s3⟩,⟨p4,q4,s4⟩,⟨p5,q5,s5⟩,rfl,cp⟩,hb2⟩;have V1:=Z1.out.on hb2;have V2:=O (Z2.out.on hb2);have V3:=O (Z3.out.on hb2);clear x0 x1 x2 x3 x4 x5;obtain⟨x0,x1,x2,x3,x4,x5⟩:=V1.eX;obtain⟨t0,t1,t2,t3,t4,t5⟩:=V1.kI;have zz:=V1.lt;have FB:=O (dK V1 (U Z b.me) (J p1 q1 s1) (J p2 q2 s2) (J p3 q3 s3) (J p4 q4 s4) (J p5 q5 s5));have FC:=O (cp.but (eU w2 w.heap.size (U Z b.me) (J p1 q1 s1) (J p2 q2 s2) (J p3 q3 s3) (J p4 q4 s4) (J p5 q5 s5)) V1);have FL:=O (dG (b:=w.heap.size) (B1.out.trans (hb2.mono B1.out.size)) (aO _) (U Z b.me) (J p1 q1 s1) (J p2 q2 s2) (J p3 q3 s3) (J p4 q4 s4) (J p5 q5 s5));have F2:=O ((eU w2 w.heap.size (U Z b.me) (J p1 q1 s1) (J p2 q2 s2) (J p3 q3 s3) (J p4 q4 s4) (J p5 q5 s5)).box V2.out (by omega));have F3:=O ((eU w2 w.heap.size (U Z b.me) (J p1 q1 s1) (J p2 q2 s2) (J p3 q3 s3) (J p4 q4 s4) (J p5 q5 s5)).box V3.out (by omega));have SZ:=O (show w1.heap.size<=(gN w2 w.heap.size (U Z b.me) (J p1 q1 s1) (J p2 q2 s2) (J p3 q3 s3) (J p4 q4 s4) (J p5 q5 s5)).heap.size by have:=hb2.size; simp; omega);have L2:=O (show w.heap.size<w1.heap.size from L1.out);clear V1 V2 V3 cp hb2 Z1 Z2 Z3 L1;go_upto_region 4 with fail;clear x0 x1 x2 x3 x4 x5 t0 t1 t2 t3 t4 t5 zz;unfold gN at FB FC FL F2 F3 SZ;generalize ((((((w2).setCell ⟨w.heap.size,0,aj⟩ (U Z b.me)).setCell ⟨w.heap.size,1,aj⟩ (J p1 q1 s1)).setCell ⟨w.heap.size,2,aj⟩ (J p2 q2 s2)).setCell ⟨w.heap.size,3,aj⟩ (J p3 q3 s3)).setCell ⟨w.heap.size,4,aj⟩ (J p4 q4 s4)).setCell ⟨w.heap.size,5,aj⟩ (J p5 q5 s5)=w3 at *;obtain⟨la,RX,RY⟩:=FC.out.dP;have yF:=O RX;have HL2:=O RY;have KE:=O (keys_eq RY);clear RX RY;refine alg _ w3 w1.heap.size la w.heap.size (w.heap.size+1) b.me (J p1 q1 s1) p2 q2 s2 (J p3 q3 s3) (J p4 q4 s4) (J p5 q5 s5) y1 y2 yo yn yc y4 a.p _ _ _ _ _ _ _ _ _ _ _ _ _ _ _ _ _ _ _ _ _ _ _ _ FB.out F2.out yF.out ?_ ?_ SZ.out L2.out (HA.out.2.2.on FL.out) LA.out ?_
  ·rw [uW,KE.out,<- uW]; exact R2.out
  ·rw [HL2.out.len]; exact HF.out.dP
  intro w4 v13 v14 v15 v16 v17 v18 s1' s2' s3' t1 t2 t3 hbx hown hc hoff hbel;have CP2:=O (FC.out.air (Ac:=(t1,t2,t3)) (al:=gT b.dP (gq (b.dP.map Ad.id) a.id) a) hoff ⟨_,hown,by
   have hg:=kK yF.out;have h2:=HL2.out.mono fun _ _ q=>q.off hoff hg (by decide);have hk:gF jw la (y1,y2)=gq (b.dP.map Ad.id) a.id:=by rw [jA,KE.out,EI.out]
   rw [<- hk];exact Ck h2 _ ⟨HA.out.1,HA.out.2.1,Or.inr (dM hc SZ.out)⟩⟩)
  have G2:=O (show dJ w4 (w.heap.size+1) _ _ from (hbel.block _ L3.out).trans F2.out);have G3:=O (show dJ w4 (w.heap.size+1+1) _ _ from hoff.box F3.out (kK yF.out) (by decide));have G1:=O (show dJ (w4.setCell ⟨w.heap.size,2,aj⟩ (J t1 t2 t3)) w.heap.size #[U Z b.me,J p1 q1 s1,J t1 t2 t3,J p3 q3 s3,J p4 q4 s4,J p5 q5 s5] 28 by simpa using dZ (k:=2) hbx (J t1 t2 t3));have CP3:=O (CP2.out.but (dQ w4 w.heap.size 2 (J t1 t2 t3)) hbx);have G2':=O ((dQ w4 w.heap.size 2 (J t1 t2 t3)).box G2.out (by omega));have G3':=O ((dQ w4 w.heap.size 2 (J t1 t2 t3)).box G3.out (by omega));have GL:=O (show Below w.heap.size w (w4.setCell ⟨w.heap.size,2,aj⟩ (J t1 t2 t3)) from (FL.out.trans (hbel.mono (bf L2.out))).setCell (p:=⟨w.heap.size,2,aj⟩) (aO _) _);have GZ:=O (show w1.heap.size<=(w4.setCell ⟨w.heap.size,2,aj⟩ (J t1 t2 t3)).heap.size by have:=SZ.out; have:=hbel.size; simp; omega);clear hbx hown hc hoff hbel CP2 G2 G3 FB FC F2 F3 FL SZ yF HL2 KE;generalize w4.setCell ⟨w.heap.size,2,aj⟩ (J t1 t2 t3)=w5 at *;have x3:=G1.out.cell 3;have d1:=G2'.out.cell 1;have d0:=G2'.out.cell 0;simp only [aF,aJ,aK] at x3 d0 d1;go_wp2_with fail;refine (Vo w1.heap.size (p3,q3,s3) b.seen (y1,y2) w5 CP3.out.seen R1.out HF.out.seen GZ.out).mono ?_;rintro e3 w6 ⟨⟨⟨r1,r2,r3⟩,rfl,hown⟩,hbel,hoth⟩;have hoff:Off (dY (p3,q3,s3)).ownBlock w5 w6:=⟨hoth,hbel.size⟩;have CP4:=O (CP3.out.ald (IK:=(r1,r2,r3)) (sl:=gT b.seen (gq b.seen a.id) a.id) hoff (by
   have hk:gF sI b.seen (sI (y1,y2))=gq b.seen a.id:=by rw [jA,EI.out]; simp
   rw [<- hk,EI.out];exact hown))
  have hg:=kK CP3.out.seen;have K1:=hoff.box G1.out hg (by decide);have K3:=hoff.box G3'.out hg (by decide);have KL:=GL.out.trans (hbel.mono (bf L2.out));have M1:=O (show dJ (w6.setCell ⟨w.heap.size,3,aj⟩ (J r1 r2 r3)) w.heap.size #[U Z b.me,J p1 q1 s1,J t1 t2 t3,J r1 r2 r3,J p4 q4 s4,J p5 q5 s5] 28 by simpa using dZ (k:=3) K1 (J r1 r2 r3));have M3:=O ((dQ w6 w.heap.size 3 (J r1 r2 r3)).box K3 (by omega));have MC:=O (CP4.out.but (dQ w6 w.heap.size 3 (J r1 r2 r3)) K1);have ML:=O (show Below w.heap.size w (w6.setCell ⟨w.heap.size,3,aj⟩ (J r1 r2 r3)) from KL.setCell (p:=⟨w.heap.size,3,aj⟩) (aO _) _);clear x3 d0 d1;have x3:=K1.cell 3;have t3:=K1.fr 3;have zz:=K1.lt;simp only [aF,aJ,aK] at x3;clear hown hbel hoth hoff hg K1 K3 KL CP4 CP3 G1 G2' G3' GL GZ;go_upto_region 6 with fail;clear x3 t3 zz;generalize w6.setCell ⟨w.heap.size,3,aj⟩ (J r1 r2 r3)=w7 at *;have U1:=M1.out;have U3:=M3.out;obtain⟨x0,x1,x2,x3,x4,x5⟩:=U1.eX;obtain⟨z0,z1,z2,z3,z4,z5⟩:=U3.eX;obtain⟨f0,f1,f2,f3,f4,f5⟩:=U3.kI;have zz:=U3.lt;have FB:=O (dK U3 (U Z b.me) (J p1 q1 s1) (J t1 t2 t3) (J r1 r2 r3) (J p4 q4 s4) (J p5 q5 s5));have FC:=O (MC.out.but (eU w7 (w.heap.size+1+1) (U Z b.me) (J p1 q1 s1) (J t1 t2 t3) (J r1 r2 r3) (J p4 q4 s4) (J p5 q5 s5)) U3);have FL:=O (dG (b:=w.heap.size+1+1) ML.out (by omega) (U Z b.me) (J p1 q1 s1) (J t1 t2 t3) (J r1 r2 r3) (J p4 q4 s4) (J p5 q5 s5));clear U1 U3 M1 M3 MC ML;go_wp2_with fail;obtain⟨v0,v1,v2,v3,v4,v5⟩:=FB.out.eX;refine bodyPost_ret (v:=.tuple #[.agg #[U Z b.me,J p1 q1 s1,J t1 t2 t3,J r1 r2 r3,J p4 q4 s4,J p5 q5 s5],aY cZ]) (by simp [results,bM,go_sem,v0,v1,v2,v3,v4,v5]) rfl ?_;rw [LQ.out];exact⟨⟨(p1,q1,s1),(t1,t2,t3),(r1,r2,r3),(p4,q4,s4),(p5,q5,s5),rfl,FC.out.vbr,fun _=>⟨_,FC.out.near⟩,fun _=>⟨_,_,FC.out⟩⟩,FL.out⟩
 ·have hin:a.id∈b.seen:=by rw [EI.out]; exact of_decide_eq_true HR.out
  have LQ:=O (uY hin);have FB:=O (dK Y3 (U Z b.me) (J no nn nc) (J ao an ac) (J so sn sc) (J eo en ec) (J oo dU oc));have FL:=O (dG (b:=w.heap.size+1+1) B1.out (by omega) (U Z b.me) (J no nn nc) (J ao an ac) (J so sn sc) (J eo en ec) (J oo dU oc));clear hin Y1 Y2 Y3;go_wp2_with fail;obtain⟨v0,v1,v2,v3,v4,v5⟩:=FB.out.eX;refine bodyPost_ret (v:=.tuple #[.agg #[U Z b.me,J no nn nc,J ao an ac,J so sn sc,J eo en ec,J oo dU oc],aY aU]) (by simp [results,bM,go_sem,v0,v1,v2,v3,v4,v5]) rfl ?_;rw [LQ.out];exact⟨⟨(no,nn,nc),(ao,an,ac),(so,sn,sc),(eo,en,ec),(oo,dU,oc),rfl,HH.out.on FL.out,fun h=>h.on FL.out,fun h=>(h.resolve_right (by simp)).on FL.out⟩,FL.out⟩
end Go.Proofs.YtmklifheakemeaaGreat.Av
