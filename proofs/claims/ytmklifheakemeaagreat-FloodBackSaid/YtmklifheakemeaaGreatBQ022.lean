/-
  put of package adver. Conditions as told.
-/
import Derived.Test.YtmklifheakemeaaGreatBQ021
import Derived.Test.YtmklifheakemeaaGreatBQ018
import Derived.Test.YtmklifheakemeaaGreatBQ020
import Derived.Laws.IdiomCopy
set_option maxRecDepth 100000
set_option maxHeartbeats 64000000
open _root_.Bool renaming false->aV,true->dw
open _root_.Go renaming World->aB,Value->aR,TypeId->bg,Calls->bM,Addr->dh
open Go.Builtin renaming zeroCells->aL,clear_->aX
open Go.Ending renaming returned->aC
open Go.Instr renaming sliceAt->aY,indexAt->bV
open Go.IntKind renaming i64->ah
open Go.IntWalk renaming i64_in->aO
open Go.Lib renaming hid->O
open Go.Obj renaming cells->aM
open Go.Proofs.Tryz renaming prog->aA,results35->bS,ntmps96->bZ,ntmps98->cu,func92->cB,func96->cO,func98->cZ
open Go.Proofs.YtmklifheakemeaaGreat.Rw.Row renaming dH->aP
open Go.RowKit.Below renaming refl->aQ
open Go.Value renaming slice->J,int->Z,pointer->ay,bool->bf,agg->dB
open _root_.List renaming getElem?_map->aD,getElem?_eq_some_iff->aF,getElem?_toArray->aG,getElem?_eq_getElem->aH,getElem?_cons_zero->aJ,getElem?_cons_succ->aK,take_add_one->aT,mem_iff_getElem?->aU,filter_eq_self->aW,mem_cons->aZ,take_of_length_le->bF,length_set->bG,take_take->bH,mem_cons_of_mem->bJ,take_set_of_le->bK,pairwise_cons->bL,length_take->bN,drop_drop->bR,map_cons->bU,mem_map->bW,take->dn,drop->dx
open _root_.Nat renaming lt_of_lt_of_le->aj,le_trans->ak,le_refl->aN,le_of_lt->aS,mul_le_mul_right->bI,min_eq_left->bQ,add_zero->bX,lt_or_ge->bY,zero_le->cK
open _root_.Option renaming none->U,some->au
open Option.some renaming inj->aI
namespace Go.Proofs.YtmklifheakemeaaGreat
namespace Av
open Go.RowKit Go.Sort Rw YtmklifheakemeaaGreat.Nm Pr Bk
theorem Qk (l:List fD) (y:fD):gM uy l y<=l.length:=by
 rw [jf];exact ak (lS _ _) (by simp)
theorem Tp (B:Nat) (v:Sl) (l:List fD) (x:fD) (w:aB) (ho:Own EJ w B (dX v) l) (hr:lq uy l) (hl:l.length<=900) (hB:B<=w.heap.size) :
  bM aA 93 #[dX v,mZ x,.func (.func 56) #[] #[]] w fun e w'=>(∃ v':Sl,e=aC (dX v')/\Own EJ w' B (dX v') (fU l (gM uy l (uy x)) x))/\Below B w w'/\(∀ j,j<w.heap.size->au j≠(dX v).ownBlock->w'.heap[j]?=w.heap[j]?):=by
 have h0:=gu w (aM #[Z ah x.1,Z ah x.2] 31);have X:=dO w #[Z ah x.1,Z ah x.2] 31;have C:=O (Yh (dX v) l x _ ((aP ho).on h0) hr hl);obtain⟨ks,hks⟩:∃ k,k=gM uy l (uy x):=⟨_,rfl⟩;have KL:ks<=l.length:=by rw [hks]; exact Qk _ _
 rw [<- hks] at C;rw [<- hks];generalize lV uy l (uy x)=th at *;have OW:=O (Bk.dI ho h0);have HV:=O (show (dX v).ownBlock≠U->∃ g,(dX v).ownBlock=au g/\g<w.heap.size from fun hne=>by
  cases hb:(dX v).ownBlock with
  | none=>exact absurd hb hne
  | some g=>exact⟨g,rfl,(ho.lt g hb).2⟩)
 have B0:=O ((aQ B w).alloc hB (aM #[Z ah x.1,Z ah x.2] 31));have BN0:=O h0;have KK:=O KL;have LL:=O hl;have BB:=O hB;clear h0 ho hr hl hB hks KL;obtain⟨c1,c2⟩:=x;obtain⟨vo,vn,vc⟩:=v;simp only at C X;obtain⟨x0,x1⟩:=X.cs2;have XX:=O X;clear X;go_enter Tryz.func93,Tryz.ntmps93;go_wp2_with fail;have W1:=O (show w.heap.size<=(w.alloc (aM #[Z ah c1,Z ah c2] 31)).heap.size by simp);generalize w.alloc (aM #[Z ah c1,Z ah c2] 31)=W at *;refine C.out.mono ?_;rintro e w1 ⟨rfl,hb⟩;have Y:=XX.out.on hb;obtain⟨y0,y1⟩:=Y.cs2;have O1:=O (Bk.dI OW.out hb);have B1:=O (B0.out.trans (hb.mono (ak BB.out W1.out)));have BW:=O (fun j (hj:j<w.heap.size)=>(hb.block j (aj hj W1.out)).trans (BN0.out.block j hj));have S1:=O (ak W1.out hb.size);clear C Y hb x0 x1;go_wp2_with fail;have hl:=LL.out;have NB:=gu w1 (aM #[Z ah c1,Z ah c2] 31);refine (Gt B _ l ks (c1,c2) w1.heap.size _ (Bk.dI O1.out NB) (dO w1 #[Z ah c1,Z ah c2] 31) ?_ KK.out (by omega) (ak (ak BB.out S1.out) NB.size)).mono ?_
 ·intro he;obtain⟨g,hg,hlt⟩:=HV.out (by rw [he]; simp);rw [he] at hg;have:=aI hg;have:=S1.out;omega
 rintro e w2 ⟨v',rfl,ho,hb,hoth⟩;obtain⟨a1,a2,hv⟩:=(aP ho).len;have Q:=O (show (∃ v'':Sl,aC v'=aC (dX v'')/\Own EJ w2 B (dX v'') (fU l ks (c1,c2)))/\Below B w w2/\(∀ j,j<w.heap.size->au j≠(dX (vo,vn,vc)).ownBlock->w2.heap[j]?=w.heap[j]?) from ⟨⟨(a1,_,a2),by rw [hv],by subst hv; simpa [fU] using ho⟩,(B1.out.trans (NB.mono (ak BB.out S1.out))).trans hb,fun j hj hne=>(hoth j (aj (aj hj S1.out) NB.size) hne).trans ((NB.block j (aj hj S1.out)).trans (BW.out j hj))⟩);clear ho hb hv hl NB;go_wp2;go_ret;exact Q.out
theorem Ql (l:List jI) (y:fD):gM lD l y<=l.length:=by
 rw [jf];exact ak (lS _ _) (by simp)
theorem Tq (B:Nat) (v:Sl) (l:List jI) (x:jI) (w:aB) (ho:Own ED w B (dX v) l) (hr:lq lD l) (hl:l.length<=900) (hB:B<=w.heap.size) :
  bM aA 92 #[dX v,mY x,.func (.func 58) #[] #[]] w fun e w'=>(∃ v':Sl,e=aC (dX v')/\Own ED w' B (dX v') (fU l (gM lD l (lD x)) x))/\Below B w w'/\(∀ j,j<w.heap.size->au j≠(dX v).ownBlock->w'.heap[j]?=w.heap[j]?):=by
 have h0:=gu w (aM #[Z ah x.1,Z ah x.2.1,dX x.2.2.1,Z ah x.2.2.2] 74);have X:=dO w #[Z ah x.1,Z ah x.2.1,dX x.2.2.1,Z ah x.2.2.2] 74;have C:=O (Yi (dX v) l x _ ((aP ho).on h0) hr hl);obtain⟨ks,hks⟩:∃ k,k=gM lD l (lD x):=⟨_,rfl⟩;have KL:ks<=l.length:=by rw [hks]; exact Ql _ _
 have e1:lD x=(x.1,x.2.1):=rfl;rw [<- e1] at C;rw [<- hks] at C;rw [<- hks];generalize lV lD l (lD x)=th at *;have OW:=O (Bk.dI ho h0);have HV:=O (show (dX v).ownBlock≠U->∃ g,(dX v).ownBlock=au g/\g<w.heap.size from fun hne=>by
  cases hb:(dX v).ownBlock with
  | none=>exact absurd hb hne
  | some g=>exact⟨g,rfl,(ho.lt g hb).2⟩)
 have B0:=O ((aQ B w).alloc hB (aM #[Z ah x.1,Z ah x.2.1,dX x.2.2.1,Z ah x.2.2.2] 74));have BN0:=O h0;have KK:=O KL;have LL:=O hl;have BB:=O hB;clear h0 ho hr hl hB hks KL;obtain⟨c1,c2,⟨c3,c4,c5⟩,c6⟩:=x;obtain⟨vo,vn,vc⟩:=v;simp only at C X;obtain⟨x0,x1,x2,x3⟩:=X.Cx;have XX:=O X;clear X;go_enter cB,Tryz.ntmps92;go_wp2_with fail;have W1:=O (show w.heap.size<=(w.alloc (aM #[Z ah c1,Z ah c2,J c3 c4 c5,Z ah c6] 74)).heap.size by simp);generalize w.alloc (aM #[Z ah c1,Z ah c2,J c3 c4 c5,Z ah c6] 74)=W at *;refine C.out.mono ?_;rintro e w1 ⟨rfl,hb⟩;have Y:=XX.out.on hb;obtain⟨y0,y1,y2,y3⟩:=Y.Cx;have O1:=O (Bk.dI OW.out hb);have B1:=O (B0.out.trans (hb.mono (ak BB.out W1.out)));have BW:=O (fun j (hj:j<w.heap.size)=>(hb.block j (aj hj W1.out)).trans (BN0.out.block j hj));have S1:=O (ak W1.out hb.size);clear C Y hb x0 x1 x2 x3;go_wp2_with fail;have hl:=LL.out;have NB:=gu w1 (aM #[Z ah c1,Z ah c2,J c3 c4 c5,Z ah c6] 74);refine (G9 B _ l ks (c1,c2,(c3,c4,c5),c6) w1.heap.size _ (Bk.dI O1.out NB) (dO w1 #[Z ah c1,Z ah c2,J c3 c4 c5,Z ah c6] 74) ?_ KK.out (by omega) (ak (ak BB.out S1.out) NB.size)).mono ?_
 ·intro he;obtain⟨g,hg,hlt⟩:=HV.out (by rw [he]; simp);rw [he] at hg;have:=aI hg;have:=S1.out;omega
 rintro e w2 ⟨v',rfl,ho,hb,hoth⟩;obtain⟨a1,a2,hv⟩:=(aP ho).len;have Q:=O (show (∃ v'':Sl,aC v'=aC (dX v'')/\Own ED w2 B (dX v'') (fU l ks (c1,c2,(c3,c4,c5),c6)))/\Below B w w2/\(∀ j,j<w.heap.size->au j≠(dX (vo,vn,vc)).ownBlock->w2.heap[j]?=w.heap[j]?) from ⟨⟨(a1,_,a2),by rw [hv],by subst hv; simpa [fU] using ho⟩,(B1.out.trans (NB.mono (ak BB.out S1.out))).trans hb,fun j hj hne=>(hoth j (aj (aj hj S1.out) NB.size) hne).trans ((NB.block j (aj hj S1.out)).trans (BW.out j hj))⟩);clear ho hb hv hl NB;go_wp2;go_ret;exact Q.out
def Off (ob:Option Nat) (W x:aB):Prop:=(∀ j,j<W.heap.size->au j≠ob->x.heap[j]?=W.heap[j]?)/\W.heap.size<=x.heap.size
def Tag (ob:Option Nat) (W:aB) (t:bg):Prop:=∀ g,ob=au g->∃ d,dJ W g d t
theorem ku {α:Type} {E:Ek α} {W:aB} {B:Nat} {v:aR} {l:List α} (h:Own E W B v l):Tag v.ownBlock W E.t:=by
 intro g hg;rcases gK h with⟨rfl,_⟩|⟨g',c',cur,rfl,_,h2,_⟩
 ·cases hg
 ·obtain rfl:g'=g:=by simpa [Value.ownBlock] using hg
  exact⟨cur,h2⟩
theorem Off.own {α:Type} {E:Ek α} {ob:Option Nat} {W x:aB} {B:Nat} {v:aR} {l:List α} {t:bg} (h:Off ob W x) (ho:Own E W B v l) (hg:Tag ob W t) (hne:(E.t == t)=aV):Own E x B v l:=by
 refine⟨ho.1,?_⟩;rcases ho.2 with h2|⟨g',cap,cur,h1,h2,h3,h4⟩
 ·exact Or.inl h2
 ·refine Or.inr ⟨g',cap,cur,h1,h2,?_,h4⟩;rw [h.1 g' (lt_of_heap h3) fun e=>by
   obtain⟨d,hd⟩:=hg g' e.symm;exact qd (show dJ W g' cur E.t from h3) hd hne rfl]
  exact h3
theorem Off.box {ob:Option Nat} {W x:aB} {b:Nat} {cs:Array aR} {s t:bg} (h:Off ob W x) (hb:dJ W b cs s) (hg:Tag ob W t) (hne:(s == t)=aV):dJ x b cs s:=(h.1 b hb.lt fun e=>by
 obtain⟨d,hd⟩:=hg b e.symm;exact qd hb hd hne rfl).trans hb
theorem PM.off {w0 wr x:aB} {B:Nat} {v:aR} {p:List C5} {ob:Option Nat} {t:bg} (h:PM w0 B wr v p) (hb:Off ob wr x) (hg:Tag ob wr t) (hne:(70 == t)=aV):PM w0 B x v p:=h.imp id fun h=>hb.own h hg hne
theorem JU.off {w0 wr x:aB} {B:Nat} {y:jI} {a:Ad} {ob:Option Nat} {t:bg} (h:JU w0 B wr y a) (hb:Off ob wr x) (hg:Tag ob wr t) (hne:(70 == t)=aV):JU w0 B x y a:=⟨h.1,h.2.1,h.2.2.off hb hg hne⟩
theorem JV.off {w0 wr x:aB} {B:Nat} {y:iL} {a:En} {ob:Option Nat} {t:bg} (h:JV w0 B wr y a) (hb:Off ob wr x) (hg:Tag ob wr t) (hne:(70 == t)=aV):JV w0 B x y a:=⟨h.1,h.2.1,h.2.2.1,h.2.2.2.1,h.2.2.2.2.off hb hg hne⟩
theorem Mr.off {w0 wr x:aB} {B:Nat} {y:rz} {a:Ow} {ob:Option Nat} {t:bg} (h:Mr w0 B wr y a) (hb:Off ob wr x) (hg:Tag ob wr t) (hne:(70 == t)=aV):Mr w0 B x y a:=⟨h.1,h.2.off hb hg hne⟩
theorem Cp.aeA {w0 wr x:aB} {B:Nat} {b:Br} {nv av sv ev ov Cb:Sl} {al:List Ad} (h:Cp w0 B wr b nv av sv ev ov) (hb:Off (dX av).ownBlock wr x) (hx:∃ l,lN x B (dX Cb) l/\fA (JU w0 B x) l al):Cp w0 B x { b with dQ:=al } nv Cb sv ev ov:=by
 obtain⟨l0,hl0,_⟩:=h.dQ;have hg:=ku hl0;exact {
  near:=hb.own h.near hg (by decide)
  seen:=hb.own h.seen hg (by decide)
  dQ:=hx
  ent:=by obtain⟨l,h1,h2⟩:=h.ent; exact⟨l,hb.own h1 hg (by decide),h2.mono fun _ _ h=>h.off hb hg (by decide)⟩
  own:=by obtain⟨l,h1,h2⟩:=h.own; exact⟨l,hb.own h1 hg (by decide),h2.mono fun _ _ h=>h.off hb hg (by decide)⟩ }
theorem Cp.acg {w0 wr x:aB} {B:Nat} {b:Br} {nv av sv ev ov ev':Sl} {el:List En} (h:Cp w0 B wr b nv av sv ev ov) (hb:Off (dX ev).ownBlock wr x) (hx:∃ l,kQ x B (dX ev') l/\fA (JV w0 B x) l el):Cp w0 B x { b with ent:=el } nv av sv ev' ov:=by
 obtain⟨l0,hl0,_⟩:=h.ent;have hg:=ku hl0;exact {
  near:=hb.own h.near hg (by decide)
  seen:=hb.own h.seen hg (by decide)
  dQ:=by obtain⟨l,h1,h2⟩:=h.dQ; exact⟨l,hb.own h1 hg (by decide),h2.mono fun _ _ h=>h.off hb hg (by decide)⟩
  ent:=hx
  own:=by obtain⟨l,h1,h2⟩:=h.own; exact⟨l,hb.own h1 hg (by decide),h2.mono fun _ _ h=>h.off hb hg (by decide)⟩ }
theorem Cp.ahc {w0 wr x:aB} {B:Nat} {b:Br} {nv av sv ev ov Kk:Sl} {sl:List fD} (h:Cp w0 B wr b nv av sv ev ov) (hb:Off (dX sv).ownBlock wr x) (hx:rW x B (dX Kk) sl):Cp w0 B x { b with seen:=sl } nv av Kk ev ov:=by
 have hg:=ku h.seen;exact {
  near:=hb.own h.near hg (by decide)
  seen:=hx
  dQ:=by obtain⟨l,h1,h2⟩:=h.dQ; exact⟨l,hb.own h1 hg (by decide),h2.mono fun _ _ h=>h.off hb hg (by decide)⟩
  ent:=by obtain⟨l,h1,h2⟩:=h.ent; exact⟨l,hb.own h1 hg (by decide),h2.mono fun _ _ h=>h.off hb hg (by decide)⟩
  own:=by obtain⟨l,h1,h2⟩:=h.own; exact⟨l,hb.own h1 hg (by decide),h2.mono fun _ _ h=>h.off hb hg (by decide)⟩ }
theorem zZ {α β:Type} {R:α->β->Prop} {l:List α} {m:List β} (h:fA R l m) (k:Nat) {a:α} {b:β} (hr:R a b):fA R (fU l k a) (fU m k b) :=
 ((h.take k).append (.cons hr .nil)).append (h.drop k)
theorem keys_eq {w0 wr:aB} {B:Nat}:∀ {l:List jI} {al:List Ad},fA (JU w0 B wr) l al->l.map lD=al.map Ad.id
 | _,_,.nil=>rfl
 | _,_,.cons h t=>by rw [bU,bU,keys_eq t]; exact congrArg (·::_) h.1
theorem Dq {α:Type} (key:α->fD) (l:List α):lq key l↔lq (fun x:fD=>x) (l.map key):=by
 unfold lq;rw [List.pairwise_map]
theorem wh {g:Nat} {t:bg}:∀ (vs:List aR) (o:Nat) (w:aB) (cur:Array aR),dJ w g cur t->∃ cur',dJ (w.setCells g o vs) g cur' t/\cur'.size=cur.size/\cur'.toList.take o=cur.toList.take o
 | [],o,w,cur,h=>⟨cur,h,rfl,rfl⟩
 | v::r,o,w,cur,h=>by
  obtain⟨cur',h1,h2,h3⟩:=wh r (o+1) (w.setCell ⟨g,o,U⟩ v) _ (dR (k:=o) h v);refine⟨cur',h1,by rw [h2]; simp,?_⟩;have h4:=congrArg (dn o) h3;rw [bH,bH,bQ (by omega)] at h4;rw [h4,Array.toList_setIfInBounds,bK (aN _)]
theorem wm (g:Nat):∀ (vs:List aR) (o:Nat) (w:aB),But g w (w.setCells g o vs)
 | [],_,_w=>⟨fun _ _ _=>rfl,aN _⟩
 | v::r,o,w=>(dP w g o v).trans (wm g r (o+1) _)
theorem below_setCells {B g:Nat} (hB:B<=g):∀ (vs:List aR) (o:Nat) (W w:aB),Below B W w->Below B W (w.setCells g o vs)
 | [],_,_,_,h=>h
 | v::r,o,W,_w,h=>below_setCells hB r (o+1) W _ (h.setCell (p:=⟨g,o,U⟩) hB v)
theorem Dr {α:Type} {E:Ek α} (K:E.Ok) (hz:∀ v∈E.z.cells.toList,v.oneCell'=dw) {W:aB} {B g n cap i:Nat} {L:List α} (h:Own E W B (J (au ⟨g,0,U⟩) n cap) L) (hi:i<n) (ty:bg) :
  ∃ W',(aX #[E.ts] ty #[J (au ⟨g,i * E.n,U⟩) (n-i) (cap-i)]).run aA W=.ok (.tuple #[]) W'/\Own E W' B (J (au ⟨g,0,U⟩) i cap) (L.take i)/\But g W W'/\(∀ B' W0,B'<=g->Below B' W0 W->Below B' W0 W'):=by
 have hln:=gV h;rcases gK h with⟨h1,_⟩|⟨g',cap',cur,h1,h2,h3,h4,h5,h6,h7⟩
 ·cases h1
 ·obtain⟨rfl,_,rfl⟩:g=g'/\n=L.length/\cap=cap':=by simpa using h1
  have hzs:(aL E.z.cells (n-i)).toList.length=(n-i) * E.n:=by simp [aL,K.zs]
  have h10:i * E.n+(n-i) * E.n=n * E.n:=by rw [<- Nat.add_mul,Nat.add_sub_cancel' (aS hi)]
  have h11:n * E.n<=cap * E.n:=bI _ (by omega);have hone:∀ v∈(aL E.z.cells (n-i)).toList,v.oneCell'=dw:=by
   intro v hv;simp only [aL,Array.toList_map,bW] at hv;obtain⟨j,_,rfl⟩:=hv;have hp:=K.pos;have hlt:j % E.z.cells.size<E.z.cells.size:=Nat.mod_lt _ (by rw [K.zs]; exact hp);refine hz _ ?_;rw [getElem!_pos E.z.cells (j % E.z.cells.size) hlt,Array.mem_toList_iff];exact Array.getElem_mem hlt
  have hst:=run_storeCells_cells (P:=aA) g (i * E.n) (aL E.z.cells (n-i)).toList 0 W (by
   intro j hj;rw [hzs] at hj;rw [bX,h3.cell];have:i * E.n+j<cur.size:=by rw [h6]; omega
   simp [this]) (fun j _=>h3.fr _) hone
  rw [bX] at hst;obtain⟨ii,i1,i2,i3,i4⟩:=K.info;obtain⟨cur',c1,c2,c3⟩:=wh (aL E.z.cells (n-i)).toList (i * E.n) W cur h3;refine⟨W.setCells g (i * E.n) (aL E.z.cells (n-i)).toList,?_,?_,wm _ _ _ _,fun B' W0 hB hb=>below_setCells hB _ _ _ _ hb⟩
  ·obtain⟨m,hm⟩:∃ m,n-i=m+1:=⟨n-i-1,by omega⟩;rw [hm] at hst ⊢;have hv:∀ w,(zeroValue E.t).run aA w=.ok E.z w:=fun w=>by simp [go_sem,zeroValue,typeInfo,i1,i2]
   simp [aX,run_underlying K.hu,hv,hst]
  ·refine qB K (by rw [bN]; omega) h2 c1 (by omega) h5 (by rw [c2]; exact h6) ?_;rw [c3];have h8:=congrArg (dn (i * E.n)) h7;rw [bH,tJ K,bQ (by rw [<- hln] at hi; exact bI _ (aS hi))] at h8;exact h8
structure sK {α:Type} (keep:α->Bool) (l:List α) (i j:Nat) (L:List α):Prop where
 len:L.length=l.length
 lt:i<j
 lo:L.take i=(l.take j).filter keep
 hi:L.drop j=l.drop j
theorem sK.at {α:Type} {keep:α->Bool} {l:List α} {i j:Nat} {L:List α} (h:sK keep l i j L):L[j]?=l[j]?:=by
 have:=congrArg (fun m=>m[0]?) h.hi;simpa using this
theorem sK.skip {α:Type} {keep:α->Bool} {l:List α} {i j:Nat} {L:List α} {x:α} (h:sK keep l i j L) (hx:l[j]?=au x) (hk:keep x=aV):sK keep l i (j+1) L where
 len:=h.len
 lt:=Nat.lt_succ_of_lt h.lt
 lo:=by
  rw [h.lo,aT,hx];simp [hk]
 hi:=by
  have:=congrArg (dx 1) h.hi;simpa [bR] using this
theorem sK.keep {α:Type} {keep:α->Bool} {l:List α} {i j:Nat} {L:List α} {x:α} (h:sK keep l i j L) (hx:l[j]?=au x) (hk:keep x=dw):sK keep l (i+1) (j+1) (L.set i x) where
 len:=by rw [bG]; exact h.len
 lt:=by have:=h.lt; omega
 lo:=by
  have hj:=(aF.1 hx).1;have hl:=h.lt;have hL:=h.len;rw [aT,bK (aN _),h.lo,List.getElem?_set_self (by omega),aT,hx];simp [hk]
 hi:=by
  have:=congrArg (dx 1) h.hi;rw [List.drop_set_of_lt (by have:=h.lt; omega)];simpa [bR] using this
theorem wo {α:Type} {keep:α->Bool} {l:List α} {k:Nat} {x:α} (hx:l[k]?=au x) (hk:keep x=aV) (hall:∀ (j:Nat) (y:α),j<k->l[j]?=au y->keep y=dw):sK keep l k (k+1) l where
 len:=rfl
 lt:=Nat.lt_succ_self _
 lo:=by
  rw [aT,hx,List.filter_append];have:(l.take k).filter keep=l.take k:=by
   rw [aW];intro y hy;obtain⟨j,hj⟩:=aU.1 hy;have hj':=(aF.1 hj).1;rw [bN] at hj';rw [List.getElem?_take_of_lt (by omega)] at hj;exact hall j y (by omega) hj
  rw [this];simp [hk]
 hi:=rfl
theorem tX {α:Type} {key:α->fD} {l:List α} {x:fD} (h:fI (l.map key) x=-1):∀ (j:Nat) (y:α),l[j]?=au y->key y≠x:=by
 intro j y hj hy;have h1:=Gz (l.map key) x;rw [h] at h1;have:x∈l.map key:=bW.2 ⟨y,List.mem_of_getElem? hj,hy⟩;simp [this] at h1
theorem qF:∀ {l:List fD} {x:fD} {k:Nat},fI l x=k->l[k]?=au x/\∀ (j:Nat) (y:fD),j<k->l[j]?=au y->y≠x
 | [],x,k,h=>by simp [fI] at h <;> omega
 | a::l,x,k,h=>by
  unfold fI at h;by_cases hax:a=x
  ·rw [if_pos hax] at h;obtain rfl:k=0:=by omega
   exact⟨by simpa using hax,fun j y hj=>by omega⟩
  ·rw [if_neg hax] at h;by_cases h2:fI l x=-1
   ·rw [if_pos h2] at h; omega
   ·rw [if_neg h2] at h;cases k with
    | zero=>have:=ng l x; omega
    | succ k =>
     obtain⟨h3,h4⟩:=qF (l:=l) (x:=x) (k:=k) (by omega);refine⟨by simpa using h3,fun j y hj hy=>?_⟩;cases j with
     | zero =>
      obtain rfl:a=y:=by simpa using hy
      exact hax
     | succ j=>exact h4 j y (by omega) (by simpa using hy)
theorem ahd {w:aB} {B g n cap k:Nat} {l:List jI} (x:jI) (h:Own ED w B (J (au ⟨g,0,U⟩) n cap) l) (hk:k<l.length) :
  Kl ED B g (J (au ⟨g,0,U⟩) n cap) (l.set k x) w ((((w.setCell ⟨g,k * 4,U⟩ (Z ah x.1)).setCell ⟨g,k * 4+1,U⟩ (Z ah x.2.1)).setCell ⟨g,k * 4+2,U⟩ (dX x.2.2.1)).setCell ⟨g,k * 4+3,U⟩ (Z ah x.2.2.2)):=by
 have hln:=gV h;subst hln;have h:w.ownsRow B 74 4 (J (au ⟨g,0,U⟩) l.length cap) l.length (flat ED l):=h;have s1:=(h.stored (k * 4) (Z ah x.1)).1;have s2:=(s1.stored (k * 4+1) (Z ah x.2.1)).1;have s3:=(s2.stored (k * 4+2) (dX x.2.2.1)).1;have s4:=(s3.stored (k * 4+3) (Z ah x.2.2.2)).1;refine⟨?_,((((dP _ g _ _).trans (dP _ g _ _)).trans (dP _ g _ _)).trans (dP _ g _ _)),fun B' W hB hb=>((((hb.setCell (p:=⟨g,_,U⟩) hB _).setCell (p:=⟨g,_,U⟩) hB _).setCell (p:=⟨g,_,U⟩) hB _).setCell (p:=⟨g,_,U⟩) hB _)⟩;have e:=xA l k x hk;show World.ownsRow _ B 74 4 _ (l.set k x).length (flat ED (l.set k x));rw [e,bG];exact s4
theorem Hr (x:jI) (b2:Nat) (c d:Int) (r:Bool) (hr:decide (lD x=(c,d))=r) (w:aB) (h:dJ w b2 #[Z ah c,Z ah d] 31):bM aA 97 #[mY x,ay (au ⟨b2,0,U⟩)] w fun e w'=>e=aC (bf r)/\Below w.heap.size w w':=by
 obtain⟨y1,y2,⟨yo,yn,yc⟩,y4⟩:=x;have n0:=gu w (aM #[Z ah y1,Z ah y2,J yo yn yc,Z ah y4] 74);have hx:=dO w #[Z ah y1,Z ah y2,J yo yn yc,Z ah y4] 74;have x1:=hx.cell 1;have x0:=hx.cell 0;obtain⟨z0,z1⟩:=(h.on n0).cs2;simp only [aG,aJ,aK] at x0 x1;have he:=uw y1 y2 c d r (by
  rw [<- hr];by_cases h1:y1=c <;> by_cases h2:y2=d <;> simp [h1,h2])
 have N0:=O n0;clear n0 hx h hr;go_enter Tryz.func97,Tryz.ntmps97;go_wp2;go_ret;exact⟨rfl,N0.out⟩
theorem Tt (v:Sl) (l:List jI) (b2:Nat) (c d:Int) (w:aB) (hs:Row ED w (dX v) l) (hb2:dJ w b2 #[Z ah c,Z ah d] 31) :
  bM aA 148 #[dX v,.func (.func 97) #[] #[ay (au ⟨b2,0,U⟩)]] w fun e w'=>e=aC (Z ah (fI (l.map lD) (c,d)))/\Below w.heap.size w w':=by
 obtain⟨so,sn,sc⟩:=v;obtain⟨ao,ac,hv⟩:=hs.len;have hv:J so sn sc=J ao l.length ac:=hv;obtain⟨rfl,rfl,rfl⟩:so=ao/\sn=l.length/\sc=ac:=by simpa using hv
 have HS:=O hs;have X2:=O hb2;have lm:=hs.most;unfold maxLen at lm;obtain⟨n,hn⟩:∃ n,n=l.length:=⟨_,rfl⟩;rw [<- hn] at HS lm ⊢;have HN:=O hn.symm;clear hb2 hs hv hn;go_enter Tryz.func148,Tryz.ntmps148;go_wp2
 go_loopw [8] (fun i wr=>∃ k:Nat,k<=n/\i=Z ah k/\Below w.heap.size w wr/\∀ (j:Nat) (y:jI),j<k->l[j]?=au y->lD y≠(c,d)) (fun i _=>n-(intOf i).toNat)
 case atStart=>exact⟨0,cK _,rfl,aQ _ _,fun j y h=>by omega⟩
 case round =>
  obtain⟨k,hk,rfl,hbe,hall⟩:=hrel;have BE:=O hbe;have AL:=O hall;clear hbe hall;by_cases hlt:k<n
  ·obtain⟨y,hy⟩:∃ y,l[k]?=au y:=⟨_,aH (by rw [HN.out]; exact hlt)⟩;obtain⟨p,ix,px⟩:=Mf HS.out rfl HN.out hy;obtain⟨p0,p1,p2,p3⟩:=px wr BE.out;obtain⟨r,hr⟩:∃ r,decide (lD y=(c,d))=r:=⟨_,rfl⟩;have CL:=O (Hr y b2 c d r hr wr (X2.out.on BE.out));have HY:=O hy;have HR:=O hr;obtain⟨y1,y2,⟨yo,yn,yc⟩,y4⟩:=y;simp only at p0 p1 p2 p3;have hw3:IntKind.i64.wrap ((k:Int)+1)=(k:Int)+1:=aO _ (by omega);clear px hy hr;go_wp2_with fail;refine CL.out.mono ?_;rintro e w1 ⟨rfl,hb⟩;have B1:=O (BE.out.trans (hb.mono BE.out.size));clear hb CL ix p0 p1 p2 p3;cases r
   ·go_wp2
    go_roundw
    case rel=>exact⟨k+1,by omega,by go_num,B1.out,fun j y' hj h1=>by
     rcases bY j k with h3|h3
     ·exact AL.out j y' h3 h1
     ·obtain rfl:j=k:=by omega
      have e1:=HY.out;rw [h1] at e1;rw [aI e1];exact of_decide_eq_false HR.out⟩
    case measure=>simp [intOf]; omega
   ·go_wp2;go_ret;exact⟨by rw [zR (l.map lD) k (c,d) (by rw [aD,HY.out]; exact congrArg au (of_decide_eq_true HR.out)) (fun j z hj hz=>by
     rw [aD] at hz;cases hz2:l[j]? with
     | none=>rw [hz2] at hz; cases hz
     | some u=>rw [hz2] at hz; rw [<- aI hz]; exact AL.out j u hj hz2)]; rfl,B1.out⟩
  ·obtain rfl:k=n:=by omega
   go_wp2;go_ret;exact⟨by rw [vB (l.map lD) (c,d) (fun j z hz=>by
     rw [aD] at hz;cases hz2:l[j]? with
     | none=>rw [hz2] at hz; cases hz
     | some u=>rw [hz2] at hz; rw [<- aI hz]; exact AL.out j u (by rw [<- HN.out]; exact (aF.1 hz2).1) hz2)]; rfl,BE.out⟩
abbrev keepD (c d:Int) (x:jI):Bool:=decide (lD x≠(c,d))
theorem Tv (B:Nat) (v:Sl) (l:List jI) (b2:Nat) (c d:Int) (w:aB) (ho:Own ED w B (dX v) l) (hb2:dJ w b2 #[Z ah c,Z ah d] 31) (hB:B<=w.heap.size) :
  bM aA 96 #[dX v,.func (.func 97) #[] #[ay (au ⟨b2,0,U⟩)]] w fun e w'=>(∃ v':Sl,e=aC (dX v')/\Own ED w' B (dX v') (l.filter (keepD c d)))/\Below B w w'/\Off (dX v).ownBlock w w':=by
 obtain⟨so,sn,sc⟩:=v;obtain⟨ao,ac,hv⟩:=(aP ho).len;have hv:J so sn sc=J ao l.length ac:=hv;obtain⟨rfl,rfl,rfl⟩:so=ao/\sn=l.length/\sc=ac:=by simpa using hv
 have IX:=O (Tt (so,l.length,sc) l b2 c d w (aP ho) hb2);have HO:=O ho;have X2:=O hb2;have lm:=(aP ho).most;unfold maxLen at lm;have BZ:=O (show w.heap.size<=w.heap.size from aN _);obtain⟨n,hn⟩:∃ n,n=l.length:=⟨_,rfl⟩;rw [<- hn] at HO lm IX ⊢;have HN:=O hn.symm;obtain⟨q,hq⟩:∃ q,fI (l.map lD) (c,d)=q:=⟨_,rfl⟩;rw [hq] at IX;have HQ:=O hq;have HB:=O hB;have LB:=O (show ∀ g,(dX (so,n,sc)).ownBlock=au g->B<=g from fun g hg=>(HO.out.lt g hg).1);clear hb2 ho hv hn hB;by_cases hneg:q=-1
 ·subst hneg;go_enter cO,bZ;go_wp2_with fail;refine IX.out.mono ?_;rintro e w1 ⟨rfl,hb⟩;have FE:=O (show l.filter (keepD c d)=l from by
   rw [aW];intro y hy;obtain⟨j,hj⟩:=aU.1 hy;exact decide_eq_true (tX hq j y hj))
  have BH:=O hb;clear hb hq;go_wp2;go_ret;exact⟨⟨(so,n,sc),rfl,by rw [FE.out]; exact Bk.dI HO.out BH.out⟩,BH.out.mono HB.out,fun j hj _=>BH.out.block j hj,BH.out.size⟩
 ·obtain⟨k,rfl⟩:∃ k:Nat,q=k:=⟨q.toNat,by have:=ng (l.map lD) (c,d); omega⟩;obtain⟨g1,g2⟩:=qF hq;obtain⟨x,hx,hxk⟩:∃ x,l[k]?=au x/\lD x=(c,d):=by
   rw [aD] at g1;cases hz:l[k]? with
   | none=>rw [hz] at g1; cases g1
   | some x=>rw [hz] at g1; exact⟨x,rfl,aI g1⟩
  have ST0:=O (wo (keep:=keepD c d) hx (decide_eq_false (by simp [hxk])) (fun j y hj hy=>decide_eq_true (g2 j (lD y) hj (by rw [aD,hy]; rfl))));have hkl:k<n:=by rw [<- HN.out]; exact (aF.1 hx).1
  obtain⟨g,rfl,hBg⟩:∃ g,so=au ⟨g,0,U⟩/\B<=g:=sJ HO.out (show 0<n by omega);have BG:=O hBg;have TG:=O (ku HO.out);have hcap:n<=sc:=by
   rcases gK HO.out with⟨h1,_⟩|⟨g',c',cur,h1,h2,h3,h4,h5,h6,h7⟩
   ·cases h1
   ·have e1:sc=c':=by simpa using congrArg (fun v=>match v with | Value.slice _ _ c=>c | _=>0) h1
    have:=HN.out;omega
  have hw0:IntKind.i64.wrap ((k:Int)+1)=(k:Int)+1:=aO _ (by omega);have hk1:((k:Int) == -1)=aV:=by rw [beq_eq_false_iff_ne]; omega
  clear hq g1 g2 hx hxk x hneg hBg LB;go_enter cO,bZ;go_wp2_with fail;refine IX.out.mono ?_;rintro e w1 ⟨rfl,hb⟩;have O1:=O (Bk.dI HO.out hb);have B1:=O (hb.mono HB.out);have F1:=O (show Off (au g) w w1 from ⟨fun j hj _=>hb.block j hj,hb.size⟩);clear hb IX;go_wp2;clear hw0 hk1
  go_loopw [5,6] (fun s5 s6 wr=>∃ (i j:Nat) (L:List jI),s5=Z ah i/\s6=Z ah j/\j<=n/\sK (keepD c d) l i j L/\Own ED wr B (J (au ⟨g,0,U⟩) n sc) L/\Below B w wr/\Off (au g) w wr) (fun _ s6 _=>n-(intOf s6).toNat)
  case atStart=>exact⟨k,k+1,l,rfl,by go_num,by omega,ST0.out,O1.out,B1.out,F1.out⟩
  case round =>
   obtain⟨i,j,L,rfl,rfl,hj,hst,how,hbe,hof⟩:=hrel;have ST:=O hst;have OW:=O how;have BE:=O hbe;have OF:=O hof;have hij:=hst.lt;have LN:=O (show L.length=n from hst.len.trans HN.out);clear hst how hbe hof O1 B1 F1 ST0;by_cases hlt:j<n
   ·obtain⟨y,hy⟩:∃ y,l[j]?=au y:=⟨_,aH (by rw [HN.out]; exact hlt)⟩;have hyL:L[j]?=au y:=by rw [ST.out.at,hy]
    obtain⟨p,ix,px⟩:=Mf (aP OW.out) rfl LN.out hyL;obtain⟨p0,p1,p2,p3⟩:=px wr (aQ _ _);obtain⟨r,hr⟩:∃ r,decide (lD y=(c,d))=r:=⟨_,rfl⟩;have HY:=O hy;have hw3:IntKind.i64.wrap ((j:Int)+1)=(j:Int)+1:=aO _ (by omega);have hw5:IntKind.i64.wrap ((i:Int)+1)=(i:Int)+1:=aO _ (by omega);obtain⟨z,hz⟩:∃ z,L[i]?=au z:=⟨_,aH (by rw [LN.out]; omega)⟩;have HZ:=O hz;have X2w:=OF.out.box X2.out TG.out (by decide);have CLO:=Hr y b2 c d r hr;have KP:=O (show keepD c d y=!r from by rw [<- hr]; simp [keepD]);obtain⟨y1,y2,⟨yo,yn,yc⟩,y4⟩:=y;simp only at p0 p1 p2 p3;have NB:=O (gu wr (aM #[Z ah y1,Z ah y2,J yo yn yc,Z ah y4] 74));have CL:=O (CLO _ (X2w.on NB.out));clear hy hyL px hr hz CLO X2w;go_wp2_with fail;refine CL.out.mono ?_;rintro e w2 ⟨rfl,hb⟩;have BB:=O (NB.out.trans (hb.mono NB.out.size));have Y7:=(dO wr #[Z ah y1,Z ah y2,J yo yn yc,Z ah y4] 74).on hb;obtain⟨q0,q1,q2,q3⟩:=Y7.Cx;have O2:=O (Bk.dI OW.out BB.out);clear hb CL ix p0 p1 p2 p3 Y7;cases r
    ·have ix:=kY okD g i n sc (by omega);have ix:∀ w,(bV 23 (J (au ⟨g,0,U⟩) n sc) (Z ah i)).run aA w=.ok (ay (au ⟨g,i * 4,U⟩)) w:=ix;have ca:=jC okD O2.out HZ.out w2 (aQ _ _);have ce0:=ca 0 _ rfl;have ce1:=ca 1 _ rfl;have ce2:=ca 2 _ rfl;have ce3:=ca 3 _ rfl;simp [Addr.add,ED] at ce0 ce1 ce2 ce3;obtain⟨cur,hbx⟩:=jL O2.out;have f:=fun j=>hbx.fr j;have gl:=hbx.lt;have SQ:Kl ED B g (J (au ⟨g,0,U⟩) n sc) (L.set i (y1,y2,(yo,yn,yc),y4)) w2 ((((w2.setCell ⟨g,i * 4,U⟩ (Z ah y1)).setCell ⟨g,i * 4+1,U⟩ (Z ah y2)).setCell ⟨g,i * 4+2,U⟩ (J yo yn yc)).setCell ⟨g,i * 4+3,U⟩ (Z ah y4)):=ahd (y1,y2,(yo,yn,yc),y4) O2.out (by rw [LN.out]; omega);have SQ:=O SQ;clear hbx ca;go_upto_region 10 with fail;generalize ((((w2.setCell ⟨g,i * 4,U⟩ (Z ah y1)).setCell ⟨g,i * 4+1,U⟩ (Z ah y2)).setCell ⟨g,i * 4+2,U⟩ (J yo yn yc)).setCell ⟨g,i * 4+3,U⟩ (Z ah y4))=w3 at *;clear f gl ce0 ce1 ce2 ce3 ix;go_wp2
     go_roundw
     case rel=>exact⟨i+1,j+1,L.set i (y1,y2,(yo,yn,yc),y4),by go_num,by go_num,by omega,ST.out.keep HY.out KP.out,SQ.out.1,SQ.out.2.2 B w BG.out (BE.out.trans (BB.out.mono (ak HB.out OF.out.2))),⟨fun q hq hne=>(SQ.out.2.1.1 q (aj (aj hq OF.out.2) BB.out.size) (fun e=>hne (by rw [e]))).trans ((BB.out.block q (aj hq OF.out.2)).trans (OF.out.1 q hq hne)),ak OF.out.2 (ak BB.out.size SQ.out.2.1.2)⟩⟩
     case measure=>simp [intOf]; omega
    ·go_wp2
     go_roundw
     case rel=>exact⟨i,j+1,L,rfl,by go_num,by omega,ST.out.skip HY.out KP.out,O2.out,BE.out.trans (BB.out.mono (ak HB.out OF.out.2)),⟨fun q hq hne=>(BB.out.block q (aj hq OF.out.2)).trans (OF.out.1 q hq hne),ak OF.out.2 BB.out.size⟩⟩
     case measure=>simp [intOf]; omega
   ·obtain rfl:n=j:=by omega
    obtain⟨W',hr,h1,h2,h3⟩:=Dr okD (by decide) OW.out hij (ty:=0);have sh:=gX (E:=ED) okD g i n sc (by omega) (by omega);have sl:=kE (E:=ED) okD ⟨g,0,U⟩ i n sc (by omega);have sh:∀ w,(aY 23 (J (au ⟨g,0,U⟩) n sc) (au (Z ah i)) U U).run aA w=.ok (J (au ⟨g,i * 4,U⟩) (n-i) (sc-i)) w:=sh;have sl:∀ w,(aY 23 (J (au ⟨g,0,U⟩) n sc) U (au (Z ah i)) U).run aA w=.ok (J (au ⟨g,0,U⟩) i sc) w:=sl;have hr:(aX #[23] 0 #[J (au ⟨g,i * 4,U⟩) (n-i) (sc-i)]).run aA wr=.ok (.tuple #[]) W':=hr;have Q:=O (show (∃ v':Sl,aC (J (au ⟨g,0,U⟩) i sc)=aC (dX v')/\Own ED W' B (dX v') (l.filter (keepD c d)))/\Below B w W'/\Off (dX (au ⟨g,0,U⟩,n,sc)).ownBlock w W' from ⟨⟨(au ⟨g,0,U⟩,i,sc),rfl,by
     have e1:l.take n=l:=bF (by rw [HN.out]; exact aN _);have e2:=ST.out.lo;rw [e1] at e2;rw [<- e2];exact h1⟩,h3 B w BG.out BE.out,⟨fun q hq hne=>(h2.1 q (aj hq OF.out.2) (fun e=>hne (by rw [e]; rfl))).trans (OF.out.1 q hq hne),ak OF.out.2 h2.2⟩⟩)
    clear h1 h2 h3 hlt;go_wp2_with (first | (at_builtin; refine xO rfl _ _ 23 rfl rfl rfl hr ?_) | fail);go_ret;exact Q.out
abbrev wu (x:iL):fD:=(x.1,x.2.1)
theorem Dt:∀ (l:List iL) (k:Nat) (x:iL),k<l.length->flat EN (l.set k x)=((((((((flat EN l).set (k * 7) (Z ah x.1)).set (k * 7+1) (Z ah x.2.1)).set (k * 7+2) (Z ah x.2.2.1)).set (k * 7+3) (Z ah x.2.2.2.1)).set (k * 7+4) (dX x.2.2.2.2.1)).set (k * 7+5) (Z ah x.2.2.2.2.2.1)).set (k * 7+6) (bf x.2.2.2.2.2.2))
 | [],k,x,h=>by simp at h
 | y::r,0,x,_=>rfl
 | y::r,k+1,x,h=>by
  have ih:=Dt r k x (by simpa using h);rw [show (k+1) * 7+6=(k * 7+6)+1+1+1+1+1+1+1 by omega,show (k+1) * 7+5=(k * 7+5)+1+1+1+1+1+1+1 by omega,show (k+1) * 7+4=(k * 7+4)+1+1+1+1+1+1+1 by omega,show (k+1) * 7+3=(k * 7+3)+1+1+1+1+1+1+1 by omega,show (k+1) * 7+2=(k * 7+2)+1+1+1+1+1+1+1 by omega,show (k+1) * 7+1=(k * 7+1)+1+1+1+1+1+1+1 by omega,show (k+1) * 7=(k * 7)+1+1+1+1+1+1+1 by omega];simp only [List.set_cons_succ,flat,EN,jA,List.cons_append,List.nil_append] at ih ⊢;rw [ih]
theorem ahf {w:aB} {B g n cap k:Nat} {l:List iL} (x:iL) (h:Own EN w B (J (au ⟨g,0,U⟩) n cap) l) (hk:k<l.length) :
  Kl EN B g (J (au ⟨g,0,U⟩) n cap) (l.set k x) w (((((((w.setCell ⟨g,k * 7,U⟩ (Z ah x.1)).setCell ⟨g,k * 7+1,U⟩ (Z ah x.2.1)).setCell ⟨g,k * 7+2,U⟩ (Z ah x.2.2.1)).setCell ⟨g,k * 7+3,U⟩ (Z ah x.2.2.2.1)).setCell ⟨g,k * 7+4,U⟩ (dX x.2.2.2.2.1)).setCell ⟨g,k * 7+5,U⟩ (Z ah x.2.2.2.2.2.1)).setCell ⟨g,k * 7+6,U⟩ (bf x.2.2.2.2.2.2)):=by
 have hln:=gV h;subst hln;have h:w.ownsRow B 66 7 (J (au ⟨g,0,U⟩) l.length cap) l.length (flat EN l):=h;have s1:=(h.stored (k * 7) (Z ah x.1)).1;have s2:=(s1.stored (k * 7+1) (Z ah x.2.1)).1;have s3:=(s2.stored (k * 7+2) (Z ah x.2.2.1)).1;have s4:=(s3.stored (k * 7+3) (Z ah x.2.2.2.1)).1;have s5:=(s4.stored (k * 7+4) (dX x.2.2.2.2.1)).1;have s6:=(s5.stored (k * 7+5) (Z ah x.2.2.2.2.2.1)).1;have s7:=(s6.stored (k * 7+6) (bf x.2.2.2.2.2.2)).1;refine⟨?_,(((((((dP _ g _ _).trans (dP _ g _ _)).trans (dP _ g _ _)).trans (dP _ g _ _)).trans (dP _ g _ _)).trans (dP _ g _ _)).trans (dP _ g _ _)),fun B' W hB hb=>(((((((hb.setCell (p:=⟨g,_,U⟩) hB _).setCell (p:=⟨g,_,U⟩) hB _).setCell (p:=⟨g,_,U⟩) hB _).setCell (p:=⟨g,_,U⟩) hB _).setCell (p:=⟨g,_,U⟩) hB _).setCell (p:=⟨g,_,U⟩) hB _).setCell (p:=⟨g,_,U⟩) hB _)⟩;have e:=Dt l k x hk;show World.ownsRow _ B 66 7 _ (l.set k x).length (flat EN (l.set k x));rw [e,bG];exact s7
theorem Ht (x:iL) (b2:Nat) (c d:Int) (r:Bool) (hr:decide (wu x=(c,d))=r) (w:aB) (h:dJ w b2 #[Z ah c,Z ah d] 31):bM aA 99 #[rV x,ay (au ⟨b2,0,U⟩)] w fun e w'=>e=aC (bf r)/\Below w.heap.size w w':=by
 obtain⟨y1,y2,y3,y4,⟨yo,yn,yc⟩,y6,y7⟩:=x;have n0:=gu w (aM #[Z ah y1,Z ah y2,Z ah y3,Z ah y4,J yo yn yc,Z ah y6,bf y7] 66);have hx:=dO w #[Z ah y1,Z ah y2,Z ah y3,Z ah y4,J yo yn yc,Z ah y6,bf y7] 66;have x1:=hx.cell 1;have x0:=hx.cell 0;obtain⟨z0,z1⟩:=(h.on n0).cs2;simp only [aG,aJ,aK] at x0 x1;have he:=uw y1 y2 c d r (by
  rw [<- hr];by_cases h1:y1=c <;> by_cases h2:y2=d <;> simp [h1,h2])
 have N0:=O n0;clear n0 hx h hr;go_enter Tryz.func99,Tryz.ntmps99;go_wp2;go_ret;exact⟨rfl,N0.out⟩
theorem Tw (v:Sl) (l:List iL) (b2:Nat) (c d:Int) (w:aB) (hs:Row EN w (dX v) l) (hb2:dJ w b2 #[Z ah c,Z ah d] 31) :
  bM aA 149 #[dX v,.func (.func 99) #[] #[ay (au ⟨b2,0,U⟩)]] w fun e w'=>e=aC (Z ah (fI (l.map wu) (c,d)))/\Below w.heap.size w w':=by
 obtain⟨so,sn,sc⟩:=v;obtain⟨ao,ac,hv⟩:=hs.len;have hv:J so sn sc=J ao l.length ac:=hv;obtain⟨rfl,rfl,rfl⟩:so=ao/\sn=l.length/\sc=ac:=by simpa using hv
 have HS:=O hs;have X2:=O hb2;have lm:=hs.most;unfold maxLen at lm;obtain⟨n,hn⟩:∃ n,n=l.length:=⟨_,rfl⟩;rw [<- hn] at HS lm ⊢;have HN:=O hn.symm;clear hb2 hs hv hn;go_enter Tryz.func149,Tryz.ntmps149;go_wp2
 go_loopw [8] (fun i wr=>∃ k:Nat,k<=n/\i=Z ah k/\Below w.heap.size w wr/\∀ (j:Nat) (y:iL),j<k->l[j]?=au y->wu y≠(c,d)) (fun i _=>n-(intOf i).toNat)
 case atStart=>exact⟨0,cK _,rfl,aQ _ _,fun j y h=>by omega⟩
 case round =>
  obtain⟨k,hk,rfl,hbe,hall⟩:=hrel;have BE:=O hbe;have AL:=O hall;clear hbe hall;by_cases hlt:k<n
  ·obtain⟨y,hy⟩:∃ y,l[k]?=au y:=⟨_,aH (by rw [HN.out]; exact hlt)⟩;obtain⟨p,ix,px⟩:=Pp HS.out rfl HN.out hy;obtain⟨p0,p1,p2,p3,p4,p5,p6⟩:=px wr BE.out;obtain⟨r,hr⟩:∃ r,decide (wu y=(c,d))=r:=⟨_,rfl⟩;have CL:=O (Ht y b2 c d r hr wr (X2.out.on BE.out));have HY:=O hy;have HR:=O hr;obtain⟨y1,y2,y3,y4,⟨yo,yn,yc⟩,y6,y7⟩:=y;simp only at p0 p1 p2 p3 p4 p5 p6;have hw3:IntKind.i64.wrap ((k:Int)+1)=(k:Int)+1:=aO _ (by omega);clear px hy hr;go_wp2_with fail;refine CL.out.mono ?_;rintro e w1 ⟨rfl,hb⟩;have B1:=O (BE.out.trans (hb.mono BE.out.size));clear hb CL ix p0 p1 p2 p3 p4 p5 p6;cases r
   ·go_wp2
    go_roundw
    case rel=>exact⟨k+1,by omega,by go_num,B1.out,fun j y' hj h1=>by
     rcases bY j k with h3|h3
     ·exact AL.out j y' h3 h1
     ·obtain rfl:j=k:=by omega
      have e1:=HY.out;rw [h1] at e1;rw [aI e1];exact of_decide_eq_false HR.out⟩
    case measure=>simp [intOf]; omega
   ·go_wp2;go_ret;exact⟨by rw [zR (l.map wu) k (c,d) (by rw [aD,HY.out]; exact congrArg au (of_decide_eq_true HR.out)) (fun j z hj hz=>by
     rw [aD] at hz;cases hz2:l[j]? with
     | none=>rw [hz2] at hz; cases hz
     | some u=>rw [hz2] at hz; rw [<- aI hz]; exact AL.out j u hj hz2)]; rfl,B1.out⟩
  ·obtain rfl:k=n:=by omega
   go_wp2;go_ret;exact⟨by rw [vB (l.map wu) (c,d) (fun j z hz=>by
     rw [aD] at hz;cases hz2:l[j]? with
     | none=>rw [hz2] at hz; cases hz
     | some u=>rw [hz2] at hz; rw [<- aI hz]; exact AL.out j u (by rw [<- HN.out]; exact (aF.1 hz2).1) hz2)]; rfl,BE.out⟩
abbrev oz (c d:Int) (x:iL):Bool:=decide (wu x≠(c,d))
theorem Tx (B:Nat) (v:Sl) (l:List iL) (b2:Nat) (c d:Int) (w:aB) (ho:Own EN w B (dX v) l) (hb2:dJ w b2 #[Z ah c,Z ah d] 31) (hB:B<=w.heap.size) :
  bM aA 98 #[dX v,.func (.func 99) #[] #[ay (au ⟨b2,0,U⟩)]] w fun e w'=>(∃ v':Sl,e=aC (dX v')/\Own EN w' B (dX v') (l.filter (oz c d)))/\Below B w w'/\Off (dX v).ownBlock w w':=by
 obtain⟨so,sn,sc⟩:=v;obtain⟨ao,ac,hv⟩:=(aP ho).len;have hv:J so sn sc=J ao l.length ac:=hv;obtain⟨rfl,rfl,rfl⟩:so=ao/\sn=l.length/\sc=ac:=by simpa using hv
 have IX:=O (Tw (so,l.length,sc) l b2 c d w (aP ho) hb2);have HO:=O ho;have X2:=O hb2;have lm:=(aP ho).most;unfold maxLen at lm;have BZ:=O (show w.heap.size<=w.heap.size from aN _);obtain⟨n,hn⟩:∃ n,n=l.length:=⟨_,rfl⟩;rw [<- hn] at HO lm IX ⊢;have HN:=O hn.symm;obtain⟨q,hq⟩:∃ q,fI (l.map wu) (c,d)=q:=⟨_,rfl⟩;rw [hq] at IX;have HQ:=O hq;have HB:=O hB;have LB:=O (show ∀ g,(dX (so,n,sc)).ownBlock=au g->B<=g from fun g hg=>(HO.out.lt g hg).1);clear hb2 ho hv hn hB;by_cases hneg:q=-1
 ·subst hneg;go_enter cZ,cu;go_wp2_with fail;refine IX.out.mono ?_;rintro e w1 ⟨rfl,hb⟩;have FE:=O (show l.filter (oz c d)=l from by
   rw [aW];intro y hy;obtain⟨j,hj⟩:=aU.1 hy;exact decide_eq_true (tX hq j y hj))
  have BH:=O hb;clear hb hq;go_wp2;go_ret;exact⟨⟨(so,n,sc),rfl,by rw [FE.out]; exact Bk.dI HO.out BH.out⟩,BH.out.mono HB.out,fun j hj _=>BH.out.block j hj,BH.out.size⟩
 ·obtain⟨k,rfl⟩:∃ k:Nat,q=k:=⟨q.toNat,by have:=ng (l.map wu) (c,d); omega⟩;obtain⟨g1,g2⟩:=qF hq;obtain⟨x,hx,hxk⟩:∃ x,l[k]?=au x/\wu x=(c,d):=by
   rw [aD] at g1;cases hz:l[k]? with
   | none=>rw [hz] at g1; cases g1
   | some x=>rw [hz] at g1; exact⟨x,rfl,aI g1⟩
  have ST0:=O (wo (keep:=oz c d) hx (decide_eq_false (by simp [hxk])) (fun j y hj hy=>decide_eq_true (g2 j (wu y) hj (by rw [aD,hy]; rfl))));have hkl:k<n:=by rw [<- HN.out]; exact (aF.1 hx).1
  obtain⟨g,rfl,hBg⟩:∃ g,so=au ⟨g,0,U⟩/\B<=g:=sJ HO.out (show 0<n by omega);have BG:=O hBg;have TG:=O (ku HO.out);have hcap:n<=sc:=by
   rcases gK HO.out with⟨h1,_⟩|⟨g',c',cur,h1,h2,h3,h4,h5,h6,h7⟩
   ·cases h1
   ·have e1:sc=c':=by simpa using congrArg (fun v=>match v with | Value.slice _ _ c=>c | _=>0) h1
    have:=HN.out;omega
  have hw0:IntKind.i64.wrap ((k:Int)+1)=(k:Int)+1:=aO _ (by omega);have hk1:((k:Int) == -1)=aV:=by rw [beq_eq_false_iff_ne]; omega
  clear hq g1 g2 hx hxk x hneg hBg LB;go_enter cZ,cu;go_wp2_with fail;refine IX.out.mono ?_;rintro e w1 ⟨rfl,hb⟩;have O1:=O (Bk.dI HO.out hb);have B1:=O (hb.mono HB.out);have F1:=O (show Off (au g) w w1 from ⟨fun j hj _=>hb.block j hj,hb.size⟩);clear hb IX;go_wp2;clear hw0 hk1
  go_loopw [5,6] (fun s5 s6 wr=>∃ (i j:Nat) (L:List iL),s5=Z ah i/\s6=Z ah j/\j<=n/\sK (oz c d) l i j L/\Own EN wr B (J (au ⟨g,0,U⟩) n sc) L/\Below B w wr/\Off (au g) w wr) (fun _ s6 _=>n-(intOf s6).toNat)
  case atStart=>exact⟨k,k+1,l,rfl,by go_num,by omega,ST0.out,O1.out,B1.out,F1.out⟩
  case round =>
   obtain⟨i,j,L,rfl,rfl,hj,hst,how,hbe,hof⟩:=hrel;have ST:=O hst;have OW:=O how;have BE:=O hbe;have OF:=O hof;have hij:=hst.lt;have LN:=O (show L.length=n from hst.len.trans HN.out);clear hst how hbe hof O1 B1 F1 ST0;by_cases hlt:j<n
   ·obtain⟨y,hy⟩:∃ y,l[j]?=au y:=⟨_,aH (by rw [HN.out]; exact hlt)⟩;have hyL:L[j]?=au y:=by rw [ST.out.at,hy]
    obtain⟨p,ix,px⟩:=Pp (aP OW.out) rfl LN.out hyL;obtain⟨p0,p1,p2,p3,p4,p5,p6⟩:=px wr (aQ _ _);obtain⟨r,hr⟩:∃ r,decide (wu y=(c,d))=r:=⟨_,rfl⟩;have HY:=O hy;have hw3:IntKind.i64.wrap ((j:Int)+1)=(j:Int)+1:=aO _ (by omega);have hw5:IntKind.i64.wrap ((i:Int)+1)=(i:Int)+1:=aO _ (by omega);obtain⟨z,hz⟩:∃ z,L[i]?=au z:=⟨_,aH (by rw [LN.out]; omega)⟩;have HZ:=O hz;have X2w:=OF.out.box X2.out TG.out (by decide);have CLO:=Ht y b2 c d r hr;have KP:=O (show oz c d y=!r from by rw [<- hr]; simp [oz]);obtain⟨y1,y2,y3,y4,⟨yo,yn,yc⟩,y6,y7⟩:=y;simp only at p0 p1 p2 p3 p4 p5 p6;have NB:=O (gu wr (aM #[Z ah y1,Z ah y2,Z ah y3,Z ah y4,J yo yn yc,Z ah y6,bf y7] 66));have CL:=O (CLO _ (X2w.on NB.out));clear hy hyL px hr hz CLO X2w;go_wp2_with fail;refine CL.out.mono ?_;rintro e w2 ⟨rfl,hb⟩;have BB:=O (NB.out.trans (hb.mono NB.out.size));have Y7:=(dO wr #[Z ah y1,Z ah y2,Z ah y3,Z ah y4,J yo yn yc,Z ah y6,bf y7] 66).on hb;obtain⟨q0,q1,q2,q3,q4,q5,q6⟩:=Y7.oJ;have O2:=O (Bk.dI OW.out BB.out);clear hb CL ix p0 p1 p2 p3 p4 p5 p6 Y7;cases r
    ·have ix:=kY nN g i n sc (by omega);have ix:∀ w,(bV 25 (J (au ⟨g,0,U⟩) n sc) (Z ah i)).run aA w=.ok (ay (au ⟨g,i * 7,U⟩)) w:=ix;have ca:=jC nN O2.out HZ.out w2 (aQ _ _);have ce0:=ca 0 _ rfl;have ce1:=ca 1 _ rfl;have ce2:=ca 2 _ rfl;have ce3:=ca 3 _ rfl;have ce4:=ca 4 _ rfl;have ce5:=ca 5 _ rfl;have ce6:=ca 6 _ rfl;simp [Addr.add,EN] at ce0 ce1 ce2 ce3 ce4 ce5 ce6;obtain⟨cur,hbx⟩:=jL O2.out;have f:=fun j=>hbx.fr j;have gl:=hbx.lt;have SQ:Kl EN B g (J (au ⟨g,0,U⟩) n sc) (L.set i (y1,y2,y3,y4,(yo,yn,yc),y6,y7)) w2 (((((((w2.setCell ⟨g,i * 7,U⟩ (Z ah y1)).setCell ⟨g,i * 7+1,U⟩ (Z ah y2)).setCell ⟨g,i * 7+2,U⟩ (Z ah y3)).setCell ⟨g,i * 7+3,U⟩ (Z ah y4)).setCell ⟨g,i * 7+4,U⟩ (J yo yn yc)).setCell ⟨g,i * 7+5,U⟩ (Z ah y6)).setCell ⟨g,i * 7+6,U⟩ (bf y7)):=ahf (y1,y2,y3,y4,(yo,yn,yc),y6,y7) O2.out (by rw [LN.out]; omega);have SQ:=O SQ;clear hbx ca;go_upto_region 10 with fail;generalize (((((((w2.setCell ⟨g,i * 7,U⟩ (Z ah y1)).setCell ⟨g,i * 7+1,U⟩ (Z ah y2)).setCell ⟨g,i * 7+2,U⟩ (Z ah y3)).setCell ⟨g,i * 7+3,U⟩ (Z ah y4)).setCell ⟨g,i * 7+4,U⟩ (J yo yn yc)).setCell ⟨g,i * 7+5,U⟩ (Z ah y6)).setCell ⟨g,i * 7+6,U⟩ (bf y7))=w3 at *;clear f gl ce0 ce1 ce2 ce3 ce4 ce5 ce6 ix;go_wp2
     go_roundw
     case rel=>exact⟨i+1,j+1,L.set i (y1,y2,y3,y4,(yo,yn,yc),y6,y7),by go_num,by go_num,by omega,ST.out.keep HY.out KP.out,SQ.out.1,SQ.out.2.2 B w BG.out (BE.out.trans (BB.out.mono (ak HB.out OF.out.2))),⟨fun q hq hne=>(SQ.out.2.1.1 q (aj (aj hq OF.out.2) BB.out.size) (fun e=>hne (by rw [e]))).trans ((BB.out.block q (aj hq OF.out.2)).trans (OF.out.1 q hq hne)),ak OF.out.2 (ak BB.out.size SQ.out.2.1.2)⟩⟩
     case measure=>simp [intOf]; omega
    ·go_wp2
     go_roundw
     case rel=>exact⟨i,j+1,L,rfl,by go_num,by omega,ST.out.skip HY.out KP.out,O2.out,BE.out.trans (BB.out.mono (ak HB.out OF.out.2)),⟨fun q hq hne=>(BB.out.block q (aj hq OF.out.2)).trans (OF.out.1 q hq hne),ak OF.out.2 BB.out.size⟩⟩
     case measure=>simp [intOf]; omega
   ·obtain rfl:n=j:=by omega
    obtain⟨W',hr,h1,h2,h3⟩:=Dr nN (by decide) OW.out hij (ty:=0);have sh:=gX (E:=EN) nN g i n sc (by omega) (by omega);have sl:=kE (E:=EN) nN ⟨g,0,U⟩ i n sc (by omega);have sh:∀ w,(aY 25 (J (au ⟨g,0,U⟩) n sc) (au (Z ah i)) U U).run aA w=.ok (J (au ⟨g,i * 7,U⟩) (n-i) (sc-i)) w:=sh;have sl:∀ w,(aY 25 (J (au ⟨g,0,U⟩) n sc) U (au (Z ah i)) U).run aA w=.ok (J (au ⟨g,0,U⟩) i sc) w:=sl;have hr:(aX #[25] 0 #[J (au ⟨g,i * 7,U⟩) (n-i) (sc-i)]).run aA wr=.ok (.tuple #[]) W':=hr;have Q:=O (show (∃ v':Sl,aC (J (au ⟨g,0,U⟩) i sc)=aC (dX v')/\Own EN W' B (dX v') (l.filter (oz c d)))/\Below B w W'/\Off (dX (au ⟨g,0,U⟩,n,sc)).ownBlock w W' from ⟨⟨(au ⟨g,0,U⟩,i,sc),rfl,by
     have e1:l.take n=l:=bF (by rw [HN.out]; exact aN _);have e2:=ST.out.lo;rw [e1] at e2;rw [<- e2];exact h1⟩,h3 B w BG.out BE.out,⟨fun q hq hne=>(h2.1 q (aj hq OF.out.2) (fun e=>hne (by rw [e]; rfl))).trans (OF.out.1 q hq hne),ak OF.out.2 h2.2⟩⟩)
    clear h1 h2 h3 hlt;go_wp2_with (first | (at_builtin; refine xO rfl _ _ 25 rfl rfl rfl hr ?_) | fail);go_ret;exact Q.out
def M6 (B:Nat) (b1 _b2:Nat) (_me:Int) (_z1:aR) (o2:Option dh) (n2 c2:Nat) (_z3 _z4 _z5:aR) (y1 y2:Int) (yo:Option dh) (yn yc:Nat) (y4:Int) (p:List C5) (i:Nat) (v:aR) (x:aB):Prop :=
 match i with
 | 0=>v=ay (au ⟨b1,2,U⟩)
 | 1=>v=J o2 n2 c2
 | 2=>v=dB #[Z ah y1,Z ah y2,J yo yn yc,Z ah y4]
 | 3=>∃ s:Sl,v=mY (y1,y2,s,y4)/\gP x B (dX s) p
 | _=>True
noncomputable def Zx:Code:=((Tryz.f35.body.bind (eT 4)).getD .skip)
theorem Tz (B:Nat) (b1 b2:Nat) (me:Int) (z1:aR) (o2:Option dh) (n2 c2:Nat) (z3 z4 z5:aR) (y1 y2:Int) (yo:Option dh) (yn yc:Nat) (y4:Int) (p:List C5) (i:Nat) (v:aR) (x x':aB) (h:M6 B b1 b2 me z1 o2 n2 c2 z3 z4 z5 y1 y2 yo yn yc y4 p i v x) (hb:Below x.heap.size x x'):M6 B b1 b2 me z1 o2 n2 c2 z3 z4 z5 y1 y2 yo yn yc y4 p i v x':=by
 by_cases hi:i<4
 ·rcases (by omega:i=0\/i=1\/i=2\/i=3) with rfl|rfl|rfl|rfl
  ·exact h
  ·exact h
  ·exact h
  ·obtain⟨s,h1,h2⟩:=h; exact⟨s,h1,Bk.dI h2 hb⟩
 ·unfold M6
  split <;> first | omega | trivial
theorem ahg (Q:Exit->Act->aB->Prop) (W:aB) (B0:Nat) (l:List jI) (b1 b2:Nat) (me:Int) (z1:aR) (o2:Option dh) (n2 c2:Nat) (z3 z4 z5:aR) (y1 y2:Int) (yo:Option dh) (yn yc:Nat) (y4:Int) (p:List C5) (u0 u1 u4 u5 u6 u7 u8 u9 u10 u11 u12 u13 u14 u15 u16 u17 u18 u19 u20 u21 u22 u23 u24 u25:aR)
  (h1:dJ W b1 #[Z ah me,z1,J o2 n2 c2,z3,z4,z5] 28) (h2:dJ W b2 #[Z ah y1,Z ah y2,J yo yn yc,Z ah y4] 74) (ho:lN W B0 (J o2 n2 c2) l) (hr:lq lD l) (hl:l.length<=900) (hB:B0<=W.heap.size) (hb0:b1<B0) (hp:fH W (J yo yn yc) p) (lp:p.length<=900)
  (hQ:∀ (w1:aB) (v13 v14 v15 v16 v17 v18:aR) (s1:Option dh) (s2 s3:Nat) (t1:Option dh) (t2 t3:Nat),dJ w1 b1 #[Z ah me,z1,J o2 n2 c2,z3,z4,z5] 28->lN w1 B0 (J t1 t2 t3) (fU l (gM lD l (y1,y2)) (y1,y2,(s1,s2,s3),y4))->gP w1 W.heap.size (J s1 s2 s3) p->Off (dX (o2,n2,c2)).ownBlock W w1->Below B0 W w1->Q .normal ⟨(u0::u1::ay (au ⟨b1,0,U⟩)::ay (au ⟨b2,0,U⟩)::u4::u5::u6::u7::u8::u9::u10::u11::u12::v13::v14::v15::v16::v17::v18::u19::u20::u21::u22::u23::u24::u25::[]).toArray,[]⟩ (w1.setCell ⟨b1,2,U⟩ (J t1 t2 t3))) :
  Code.wp aA Zx Q ⟨(u0::u1::ay (au ⟨b1,0,U⟩)::ay (au ⟨b2,0,U⟩)::u4::u5::u6::u7::u8::u9::u10::u11::u12::u13::u14::u15::u16::u17::u18::u19::u20::u21::u22::u23::u24::u25::[]).toArray,[]⟩ W:=by
 have HQ:=O hQ;have H1:=O h1;have H2:=O h2;have HO:=O ho;have HR:=O hr;have HL:=O hl;have HB:=O hB;have H0:=O hb0;have HP:=O hp;have LP:=O lp;clear hQ h1 h2 ho hr hl hB hb0 hp lp;have iT:=Tz W.heap.size b1 b2 me z1 o2 n2 c2 z3 z4 z5 y1 y2 yo yn yc y4 p;unfold Zx
 conv=>arg 2; whnf
 have nd:∀ j,(j<13\/17<=j)->∀ i,i<4->(fun i=>13+i) i≠j:=by
  intro j hj i hi h;simp only at h;omega
 refine Rg.fT 7 4 (fun i=>13+i) (fun _=>4) (M6 W.heap.size b1 b2 me z1 o2 n2 c2 z3 z4 z5 y1 y2 yo yn yc y4 p) (by kernel_rfl) (by kernel_rfl) rfl (by decide) (fun i j _ _ h=>by have h2:13+i=13+j:=h; omega) (fun i hi=>by show 13+i<26; omega) ?_ (fun _=>Rg.jk 14 (by kernel_rfl)) ?_ ?_
 ·intro i o hi ho a x D hnd hc hD hb seen K hK;clear HQ;rcases (by omega:i=0\/i=1\/i=2\/i=3) with rfl|rfl|rfl|rfl
  ·cases ho;have e2:a.eval (.tmp 2)=ay (au ⟨b1,0,U⟩):=seen.kp 2 _ (nd 2 (by omega)) rfl;exact Rg.dD rfl rfl (Rg.dU a.eval _ 28 (.tmp 2) 2 rfl (by rw [e2]; simp [go_sem])) (hK _ _ rfl (aQ _ _) fun _ _ _ _ _ _ _ h=>h)
  ·cases ho;have e13:a.eval (.tmp 13)=ay (au ⟨b1,2,U⟩):=seen.at_ ⟨0,.data⟩ (by simp) rfl (Or.inr (by decide));have y2:=(H1.out.on hb).cell 2;simp only [aG,aJ,aK] at y2;exact Rg.dD rfl rfl (Rg.dW a.eval _ 23 (.tmp 13) rfl (by rw [e13]; simp [go_sem,y2])) (hK _ _ rfl (aQ _ _) fun _ _ _ _ _ _ _ h=>h)
  ·cases ho;have e3:a.eval (.tmp 3)=ay (au ⟨b2,0,U⟩):=seen.kp 3 _ (nd 3 (by omega)) rfl;obtain⟨y0,y1,y2,y3⟩:=(H2.out.on hb).Cx;exact Rg.dD rfl rfl (Rg.dW a.eval _ 74 (.tmp 3) rfl (by rw [e3]; simp [go_sem,y0,y1,y2,y3])) (hK _ _ rfl (aQ _ _) fun _ _ _ _ _ _ _ h=>h)
  ·cases ho;have e15:a.eval (.tmp 15)=dB #[Z ah y1,Z ah y2,J yo yn yc,Z ah y4]:=seen.at_ ⟨2,.data⟩ (by simp) rfl (Or.inr (by decide));exact Rg.gT rfl rfl (Rw.iD a.eval _ (.tmp 15) 74 79 rfl e15 rfl _ (gD Tryz.func79 rfl rfl _ _)) (zM (y1,y2,(yo,yn,yc),y4) p x (HP.out.on hb) LP.out) fun e w1 h=>by
    obtain⟨⟨s,rfl,h1⟩,h3⟩:=h;exact⟨_,rfl,hK _ _ ⟨s,rfl,dN h1 hb.size⟩ (h3.mono hb.size) fun j u hj _ _ _ hne h=>iT j u _ _ h h3⟩
 ·intro kk o h1 h2 ho;rcases (by omega:kk=5\/kk=6) with rfl|rfl
  ·cases ho;exact⟨⟨4,.phase⟩,by simp,rfl,rfl⟩
  ·cases ho;exact⟨⟨5,.data⟩,by simp,rfl,rfl⟩
 ·intro a w' df sz kp ⟨vs,hv⟩ hb;have sz':a.tmps.size=26:=sz;have g2:a.tmps[2]?=au (ay (au ⟨b1,0,U⟩)):=(kp 2 (nd 2 (by omega))).trans rfl;have g14:a.tmps[14]?=au (J o2 n2 c2):=by
   have h:vs 1=J o2 n2 c2:=(hv 1 (by omega)).2 (by decide);rw [<- h];exact (hv 1 (by omega)).1
  obtain⟨⟨s1,s2,s3⟩,hs,hc⟩:=(hv 3 (by omega)).2 (by decide);have g16:a.tmps[16]?=au (mY (y1,y2,(s1,s2,s3),y4)):=((hv 3 (by omega)).1).trans (congrArg au hs);have B1:=H1.out.on hb;show Rg.fG _ _ _ 3 4 a w';simp only [Rg.fG];refine Rg.gT rfl rfl (xE a.eval _ (.tmp 14) (.tmp 16) (.func 58) 23 74 106 92 rfl (Rg.dM g14) (Rg.dM g16) rfl rfl _ (gD cB rfl rfl _ _)) (Tq B0 (o2,n2,c2) l (y1,y2,(s1,s2,s3),y4) w' (Bk.dI HO.out hb) HR.out HL.out (ak HB.out hb.size)) fun e w1 h=>?_;obtain⟨⟨⟨t1,t2,t3⟩,rfl,hown⟩,hbel,hoth⟩:=h;refine⟨_,rfl,?_⟩;have ahh:(a.put (au 17) (J t1 t2 t3)).tmps[17]?=au (J t1 t2 t3):=by simp [Act.put,sz']
  show Go.wpOp _ _ _ 5 _ (a.put (au 17) (J t1 t2 t3)) _;refine Rg.dD rfl rfl (Rg.dU _ _ 28 (.tmp 2) 2 rfl (v:=ay (au ⟨b1,2,U⟩)) (by rw [Rg.dM ((Rg.get_put _ 17 _ 2 (by decide)).trans g2)]; simp [go_sem])) ?_;have ahi:((a.put (au 17) (J t1 t2 t3)).put (au 18) (ay (au ⟨b1,2,U⟩))).tmps[18]?=au (ay (au ⟨b1,2,U⟩)):=by simp [Act.put,sz']
  show Go.wpOp _ _ _ 6 _ ((a.put (au 17) (J t1 t2 t3)).put (au 18) (ay (au ⟨b1,2,U⟩))) _;have B2:dJ w1 b1 _ _:=(hbel.block b1 H0.out).trans B1;have cx:=B2.cell 2;have fx:=B2.fr 2;simp only [aG,aJ,aK] at cx;refine Rg.fQ 23 (.tmp 18) (.tmp 17) rfl rfl rfl rfl (Rg.dM ahi) (Rg.dM ((Rg.get_put _ 18 _ 17 (by decide)).trans ahh)) (w':=w1.setCell ⟨b1,2,U⟩ (J t1 t2 t3)) (by simp [go_sem,cx,fx]) ?_;have of1:Off (dX (o2,n2,c2)).ownBlock w' w1:=⟨hoth,hbel.size⟩;have of2:Off (dX (o2,n2,c2)).ownBlock W w1:=⟨fun j hj hne=>(hoth j (aj hj hb.size) hne).trans (hb.block j hj),ak hb.size hbel.size⟩;have rA:∀ j,(j<13\/19<=j)->((a.put (au 17) (J t1 t2 t3)).put (au 18) (ay (au ⟨b1,2,U⟩))).tmps[j]?=(u0::u1::ay (au ⟨b1,0,U⟩)::ay (au ⟨b2,0,U⟩)::u4::u5::u6::u7::u8::u9::u10::u11::u12::u13::u14::u15::u16::u17::u18::u19::u20::u21::u22::u23::u24::u25::[])[j]?:=fun j hj=>(Rg.get_put _ 18 _ j (by omega)).trans ((Rg.get_put _ 17 _ j (by omega)).trans ((kp j (nd j (by omega))).trans aG));obtain⟨mid,hmid,hfr⟩:=Rg.gG (a:=(a.put (au 17) (J t1 t2 t3)).put (au 18) (ay (au ⟨b1,2,U⟩))) 13 6 df (by simp [Rg.size_put,sz']) (by simp) rA;show Q .normal ((a.put (au 17) (J t1 t2 t3)).put (au 18) (ay (au ⟨b1,2,U⟩))) _;rw [hfr]
  match mid,hmid with
  | [v13,v14,v15,v16,v17,v18],_ =>
   exact HQ.out w1 _ _ _ _ _ _ s1 s2 s3 t1 t2 t3 B2 hown (of1.own hc (ku (Bk.dI HO.out hb)) (by decide)) of2 ((hb.mono HB.out).trans hbel)
abbrev sM (l:List Ad):Prop:=lq Ad.id l
abbrev TD (l:List fD):Prop:=lq (fun x:fD=>x) l
def nT (W:aB) (nv:Sl) (l:List Int):Prop:=∃ B,vO W B (dX nv) l
theorem nT.on {W W':aB} {nv:Sl} {l:List Int} (h:nT W nv l) (hb:Below W.heap.size W W'):nT W' nv l:=by obtain⟨B,h⟩:=h; exact⟨B,Bk.dI h hb⟩
def pJ (W:aB) (b:Br) (nv av sv ev ov:Sl):Prop:=∃ (V:aB) (B:Nat),Cp (vw V) B W b nv av sv ev ov
theorem pJ.on {W W':aB} {b:Br} {nv av sv ev ov:Sl} (h:pJ W b nv av sv ev ov) (hb:Below W.heap.size W W'):pJ W' b nv av sv ev ov:=by
 obtain⟨V,B,h⟩:=h;exact⟨V,B,h.grow hb⟩
theorem Cp.vbr {V wr:aB} {B:Nat} {b:Br} {nv av sv ev ov:Sl} (h:Cp (vw V) B wr b nv av sv ev ov):iZ wr b nv av sv ev ov where
 near:=aP h.near
 dQ:=by obtain⟨l,h1,h2⟩:=h.dQ; exact⟨l,aP h1,h2.mono fun _ _ q=>⟨q.1,q.2.1,q.2.2.elim Km aP⟩⟩
 seen:=aP h.seen
 ent:=by obtain⟨l,h1,h2⟩:=h.ent; exact⟨l,aP h1,h2.mono fun _ _ q=>⟨q.1,q.2.1,q.2.2.1,q.2.2.2.1,q.2.2.2.2.elim Km aP⟩⟩
 own:=by obtain⟨l,h1,h2⟩:=h.own; exact⟨l,aP h1,h2.mono fun _ _ q=>⟨q.1,q.2.elim Km aP⟩⟩
theorem pJ.br {W:aB} {b:Br} {nv av sv ev ov:Sl} (h:pJ W b nv av sv ev ov):iZ W b nv av sv ev ov:=by
 obtain⟨V,B,h⟩:=h;exact h.vbr
theorem pJ.no {W:aB} {b:Br} {nv av sv ev ov:Sl} (h:pJ W b nv av sv ev ov):nT W nv b.near:=by
 obtain⟨V,B,h⟩:=h;exact⟨B,h.near⟩
theorem pJ.xC {W W':aB} {b:Br} {nv av sv ev ov:Sl} (h:pJ W b nv av sv ev ov) {g:Nat} {d:Array aR} {t:bg} (hb:But g W W') (hg:dJ W g d t) (h1:(3 == t)=aV) (h2:(31 == t)=aV) (h3:(74 == t)=aV) (h4:(66 == t)=aV) (h5:(34 == t)=aV) (h6:(70 == t)=aV):pJ W' b nv av sv ev ov:=by
 obtain⟨V,B,h⟩:=h;exact⟨V,B,h.xC hb hg h1 h2 h3 h4 h5 h6⟩
def E5 (W:aB) (P R:Prop) (r:Br×Bool) (e:Ending) (w':aB):Prop:=(∃ nv av sv ev ov:Sl,e=aC (.tuple #[oK r.1.me nv av sv ev ov,bf r.2])/\iZ w' r.1 nv av sv ev ov/\(P->nT w' nv r.1.near)/\(R\/r.2=dw->pJ w' r.1 nv av sv ev ov))/\Below W.heap.size W w'
theorem xP {b:Br} {a:Ad} (h:a.id∈b.seen):eF b a=(b,aV):=by unfold eF; rw [if_pos h]
theorem rF {b:Br} {a:Ad} (h:¬ a.id∈b.seen):eF b a=({ b with seen:=fU b.seen (fM b.seen a.id) a.id,dQ:=fU b.dQ (fM (b.dQ.map Ad.id) a.id) a },dw):=by unfold eF; rw [if_neg h]
theorem Qm (b:Br) (a:Ad) (nv av sv ev ov:Sl) (x:jI) (w:aB) (h:iZ w b nv av sv ev ov) (ha:zC w x a) (hf:PW b) (hp:yP b) (hla:a.p.length<=900) (hr1:TD b.seen) (hr2:sM b.dQ) :
  bM aA 35 #[oK b.me nv av sv ev ov,mY x] w (E5 w (nT w nv b.near) (pJ w b nv av sv ev ov) (eF b a)):=by
 obtain⟨no,nn,nc⟩:=nv;obtain⟨ao,an,ac⟩:=av;obtain⟨so,sn,sc⟩:=sv;obtain⟨eo,en,ec⟩:=ev;obtain⟨oo,dY,oc⟩:=ov;obtain⟨y1,y2,⟨yo,yn,yc⟩,y4⟩:=x;obtain⟨h0,h1,h2⟩:=gY w #[Z ah b.me,J no nn nc,J ao an ac,J so sn sc,J eo en ec,J oo dY oc] #[Z ah y1,Z ah y2,J yo yn yc,Z ah y4] 28 74;have h3:=gu ((w.alloc (aM #[Z ah b.me,J no nn nc,J ao an ac,J so sn sc,J eo en ec,J oo dY oc] 28)).alloc (aM #[Z ah y1,Z ah y2,J yo yn yc,Z ah y4] 74)) (aM #[Z ah 0,J U 0 0,J U 0 0,J U 0 0,J U 0 0,J U 0 0] 28);have h4:=dO ((w.alloc (aM #[Z ah b.me,J no nn nc,J ao an ac,J so sn sc,J eo en ec,J oo dY oc] 28)).alloc (aM #[Z ah y1,Z ah y2,J yo yn yc,Z ah y4] 74)) #[Z ah 0,J U 0 0,J U 0 0,J U 0 0,J U 0 0,J U 0 0] 28;have hsz:((w.alloc (aM #[Z ah b.me,J no nn nc,J ao an ac,J so sn sc,J eo en ec,J oo dY oc] 28)).alloc (aM #[Z ah y1,Z ah y2,J yo yn yc,Z ah y4] 74)).heap.size=w.heap.size+1+1:=by simp
 rw [hsz] at h4;have BB:=O (h0.trans (h3.mono h0.size));have X1:=O (h1.on h3);have X2:=O (h2.on h3);have X3:=O h4;have HH:=O h;have HA:=O ha;have HF:=O hf;have HP:=O hp;have LA:=O hla;have R1:=O hr1;have R2:=O hr2;have ei:a.id=(y1,y2):=ha.1.symm;have SW:=O (Qb b.me (J no nn nc) (J ao an ac) (J eo en ec) (J oo dY oc) (so,sn,sc) b.seen (y1,y2) _ (h.seen.on BB.out));obtain⟨r,hr⟩:∃ r,decide ((y1,y2)∈b.seen)=r:=⟨_,rfl⟩;rw [hr] at SW;have HR:=O hr;have EI:=O ei;obtain⟨x0,x1,x2,x3,x4,x5⟩:=X1.out.fu;obtain⟨d0,d1,d2,d3⟩:=X2.out.Cx;obtain⟨z0,z1,z2,z3,z4,z5⟩:=X3.out.fu;obtain⟨t0,t1,t2,t3,t4,t5⟩:=X3.out.kD;have zz:=X3.out.lt;clear h0 h1 h2 h3 h4 hsz h ha hf hp hla hr1 hr2 hr ei;go_enter Tryz.func35,Tryz.ntmps35;go_wp2_with fail;generalize ((w.alloc (aM #[Z ah b.me,J no nn nc,J ao an ac,J so sn sc,J eo en ec,J oo dY oc] 28)).alloc (aM #[Z ah y1,Z ah y2,J yo yn yc,Z ah y4] 74)).alloc (aM #[Z ah 0,J U 0 0,J U 0 0,J U 0 0,J U 0 0,J U 0 0] 28)=W at *;refine SW.out.mono ?_;rintro e1 w1 ⟨rfl,hb⟩;have B1:=O (BB.out.trans (hb.mono BB.out.size));have Y1:=X1.out.on hb;have Y2:=X2.out.on hb;have Y3:=X3.out.on hb;clear SW hb x0 x1 x2 x3 x4 x5 d0 d1 d2 d3 z0 z1 z2 z3 z4 z5 t0 t1 t2 t3 t4 t5 zz X1 X2 X3;obtain⟨x0,x1,x2,x3,x4,x5⟩:=Y1.fu;obtain⟨z0,z1,z2,z3,z4,z5⟩:=Y3.fu;obtain⟨t0,t1,t2,t3,t4,t5⟩:=Y3.kD;have zz:=Y3.lt;cases r
 ·have nin:¬ a.id∈b.seen:=by rw [EI.out]; exact of_decide_eq_false HR.out
  have LQ:=O (rF nin);have Z1:=O Y1;have Z2:=O Y2;have Z3:=O Y3;have L1:=O Y1.lt;have L3:=O (show w.heap.size+1<w1.heap.size from Y2.lt);clear z0 z1 z2 z3 z4 z5 t0 t1 t2 t3 t4 t5 zz nin;go_wp2_with fail;refine (tV b (no,nn,nc) (ao,an,ac) (so,sn,sc) (eo,en,ec) (oo,dY,oc) w w1 B1.out HH.out HF.out HP.out).mono ?_;rintro e2 w2 ⟨⟨⟨p1,q1,s1⟩,⟨p2,q2,s2⟩,⟨p3,q3,s3⟩,⟨p4,q4,s4⟩,⟨p5,q5,s5⟩,rfl,cp⟩,hb2⟩;have V1:=Z1.out.on hb2;have V2:=O (Z2.out.on hb2);have V3:=O (Z3.out.on hb2);clear x0 x1 x2 x3 x4 x5;obtain⟨x0,x1,x2,x3,x4,x5⟩:=V1.fu;obtain⟨t0,t1,t2,t3,t4,t5⟩:=V1.kD;have zz:=V1.lt;have FB:=O (dL V1 (Z ah b.me) (J p1 q1 s1) (J p2 q2 s2) (J p3 q3 s3) (J p4 q4 s4) (J p5 q5 s5));have FC:=O (cp.but (eX w2 w.heap.size (Z ah b.me) (J p1 q1 s1) (J p2 q2 s2) (J p3 q3 s3) (J p4 q4 s4) (J p5 q5 s5)) V1);have FL:=O (dG (b:=w.heap.size) (B1.out.trans (hb2.mono B1.out.size)) (aN _) (Z ah b.me) (J p1 q1 s1) (J p2 q2 s2) (J p3 q3 s3) (J p4 q4 s4) (J p5 q5 s5));have F2:=O ((eX w2 w.heap.size (Z ah b.me) (J p1 q1 s1) (J p2 q2 s2) (J p3 q3 s3) (J p4 q4 s4) (J p5 q5 s5)).box V2.out (by omega));have F3:=O ((eX w2 w.heap.size (Z ah b.me) (J p1 q1 s1) (J p2 q2 s2) (J p3 q3 s3) (J p4 q4 s4) (J p5 q5 s5)).box V3.out (by omega));have SZ:=O (show w1.heap.size<=(gF w2 w.heap.size (Z ah b.me) (J p1 q1 s1) (J p2 q2 s2) (J p3 q3 s3) (J p4 q4 s4) (J p5 q5 s5)).heap.size by have:=hb2.size; simp; omega);have L2:=O (show w.heap.size<w1.heap.size from L1.out);clear V1 V2 V3 cp hb2 Z1 Z2 Z3 L1;go_upto_region 4 with fail;clear x0 x1 x2 x3 x4 x5 t0 t1 t2 t3 t4 t5 zz;unfold gF at FB FC FL F2 F3 SZ;generalize ((((((w2).setCell ⟨w.heap.size,0,U⟩ (Z ah b.me)).setCell ⟨w.heap.size,1,U⟩ (J p1 q1 s1)).setCell ⟨w.heap.size,2,U⟩ (J p2 q2 s2)).setCell ⟨w.heap.size,3,U⟩ (J p3 q3 s3)).setCell ⟨w.heap.size,4,U⟩ (J p4 q4 s4)).setCell ⟨w.heap.size,5,U⟩ (J p5 q5 s5)=w3 at *;obtain⟨la,Qn,Qo⟩:=FC.out.dQ;have wX:=O Qn;have HL2:=O Qo;have KE:=O (keys_eq Qo);clear Qn Qo;refine ahg _ w3 w1.heap.size la w.heap.size (w.heap.size+1) b.me (J p1 q1 s1) p2 q2 s2 (J p3 q3 s3) (J p4 q4 s4) (J p5 q5 s5) y1 y2 yo yn yc y4 a.p _ _ _ _ _ _ _ _ _ _ _ _ _ _ _ _ _ _ _ _ _ _ _ _ FB.out F2.out wX.out ?_ ?_ SZ.out L2.out (HA.out.2.2.on FL.out) LA.out ?_
  ·rw [Dq,KE.out,<- Dq]; exact R2.out
  ·rw [HL2.out.len]; exact HF.out.dQ
  intro w4 v13 v14 v15 v16 v17 v18 s1' s2' s3' t1 t2 t3 hbx hown hc hoff hbel;have CP2:=O (FC.out.aeA (Cb:=(t1,t2,t3)) (al:=fU b.dQ (fM (b.dQ.map Ad.id) a.id) a) hoff ⟨_,hown,by
   have hg:=ku wX.out;have h2:=HL2.out.mono fun _ _ q=>q.off hoff hg (by decide);have hk:gM lD la (y1,y2)=fM (b.dQ.map Ad.id) a.id:=by rw [jf,KE.out,EI.out]
   rw [<- hk];exact zZ h2 _ ⟨HA.out.1,HA.out.2.1,Or.inr (dN hc SZ.out)⟩⟩)
  have G2:=O (show dJ w4 (w.heap.size+1) _ _ from (hbel.block _ L3.out).trans F2.out);have G3:=O (show dJ w4 (w.heap.size+1+1) _ _ from hoff.box F3.out (ku wX.out) (by decide));have G1:=O (show dJ (w4.setCell ⟨w.heap.size,2,U⟩ (J t1 t2 t3)) w.heap.size #[Z ah b.me,J p1 q1 s1,J t1 t2 t3,J p3 q3 s3,J p4 q4 s4,J p5 q5 s5] 28 by simpa using dR (k:=2) hbx (J t1 t2 t3));have CP3:=O (CP2.out.but (dP w4 w.heap.size 2 (J t1 t2 t3)) hbx);have G2':=O ((dP w4 w.heap.size 2 (J t1 t2 t3)).box G2.out (by omega));have G3':=O ((dP w4 w.heap.size 2 (J t1 t2 t3)).box G3.out (by omega));have GL:=O (show Below w.heap.size w (w4.setCell ⟨w.heap.size,2,U⟩ (J t1 t2 t3)) from (FL.out.trans (hbel.mono (aS L2.out))).setCell (p:=⟨w.heap.size,2,U⟩) (aN _) _);have GZ:=O (show w1.heap.size<=(w4.setCell ⟨w.heap.size,2,U⟩ (J t1 t2 t3)).heap.size by have:=SZ.out; have:=hbel.size; simp; omega);clear hbx hown hc hoff hbel CP2 G2 G3 FB FC F2 F3 FL SZ wX HL2 KE;generalize w4.setCell ⟨w.heap.size,2,U⟩ (J t1 t2 t3)=w5 at *;have x3:=G1.out.cell 3;have d1:=G2'.out.cell 1;have d0:=G2'.out.cell 0;simp only [aG,aJ,aK] at x3 d0 d1;go_wp2_with fail;refine (Tp w1.heap.size (p3,q3,s3) b.seen (y1,y2) w5 CP3.out.seen R1.out HF.out.seen GZ.out).mono ?_;rintro e3 w6 ⟨⟨⟨r1,r2,r3⟩,rfl,hown⟩,hbel,hoth⟩;have hoff:Off (dX (p3,q3,s3)).ownBlock w5 w6:=⟨hoth,hbel.size⟩;have CP4:=O (CP3.out.ahc (Kk:=(r1,r2,r3)) (sl:=fU b.seen (fM b.seen a.id) a.id) hoff (by
   have hk:gM uy b.seen (uy (y1,y2))=fM b.seen a.id:=by rw [jf,EI.out]; simp
   rw [<- hk,EI.out];exact hown))
  have hg:=ku CP3.out.seen;have K1:=hoff.box G1.out hg (by decide);have K3:=hoff.box G3'.out hg (by decide);have KL:=GL.out.trans (hbel.mono (aS L2.out));have M1:=O (show dJ (w6.setCell ⟨w.heap.size,3,U⟩ (J r1 r2 r3)) w.heap.size #[Z ah b.me,J p1 q1 s1,J t1 t2 t3,J r1 r2 r3,J p4 q4 s4,J p5 q5 s5] 28 by simpa using dR (k:=3) K1 (J r1 r2 r3));have M3:=O ((dP w6 w.heap.size 3 (J r1 r2 r3)).box K3 (by omega));have MC:=O (CP4.out.but (dP w6 w.heap.size 3 (J r1 r2 r3)) K1);have ML:=O (show Below w.heap.size w (w6.setCell ⟨w.heap.size,3,U⟩ (J r1 r2 r3)) from KL.setCell (p:=⟨w.heap.size,3,U⟩) (aN _) _);clear x3 d0 d1;have x3:=K1.cell 3;have t3:=K1.fr 3;have zz:=K1.lt;simp only [aG,aJ,aK] at x3;clear hown hbel hoth hoff hg K1 K3 KL CP4 CP3 G1 G2' G3' GL GZ;go_upto_region 6 with fail;clear x3 t3 zz;generalize w6.setCell ⟨w.heap.size,3,U⟩ (J r1 r2 r3)=w7 at *;have U1:=M1.out;have U3:=M3.out;obtain⟨x0,x1,x2,x3,x4,x5⟩:=U1.fu;obtain⟨z0,z1,z2,z3,z4,z5⟩:=U3.fu;obtain⟨f0,f1,f2,f3,f4,f5⟩:=U3.kD;have zz:=U3.lt;have FB:=O (dL U3 (Z ah b.me) (J p1 q1 s1) (J t1 t2 t3) (J r1 r2 r3) (J p4 q4 s4) (J p5 q5 s5));have FC:=O (MC.out.but (eX w7 (w.heap.size+1+1) (Z ah b.me) (J p1 q1 s1) (J t1 t2 t3) (J r1 r2 r3) (J p4 q4 s4) (J p5 q5 s5)) U3);have FL:=O (dG (b:=w.heap.size+1+1) ML.out (by omega) (Z ah b.me) (J p1 q1 s1) (J t1 t2 t3) (J r1 r2 r3) (J p4 q4 s4) (J p5 q5 s5));clear U1 U3 M1 M3 MC ML;go_wp2_with fail;obtain⟨v0,v1,v2,v3,v4,v5⟩:=FB.out.fu;refine bodyPost_ret (v:=.tuple #[dB #[Z ah b.me,J p1 q1 s1,J t1 t2 t3,J r1 r2 r3,J p4 q4 s4,J p5 q5 s5],bf dw]) (by simp [results,bS,go_sem,v0,v1,v2,v3,v4,v5]) rfl ?_;rw [LQ.out];exact⟨⟨(p1,q1,s1),(t1,t2,t3),(r1,r2,r3),(p4,q4,s4),(p5,q5,s5),rfl,FC.out.vbr,fun _=>⟨_,FC.out.near⟩,fun _=>⟨_,_,FC.out⟩⟩,FL.out⟩
 ·have hin:a.id∈b.seen:=by rw [EI.out]; exact of_decide_eq_true HR.out
  have LQ:=O (xP hin);have FB:=O (dL Y3 (Z ah b.me) (J no nn nc) (J ao an ac) (J so sn sc) (J eo en ec) (J oo dY oc));have FL:=O (dG (b:=w.heap.size+1+1) B1.out (by omega) (Z ah b.me) (J no nn nc) (J ao an ac) (J so sn sc) (J eo en ec) (J oo dY oc));clear hin Y1 Y2 Y3;go_wp2_with fail;obtain⟨v0,v1,v2,v3,v4,v5⟩:=FB.out.fu;refine bodyPost_ret (v:=.tuple #[dB #[Z ah b.me,J no nn nc,J ao an ac,J so sn sc,J eo en ec,J oo dY oc],bf aV]) (by simp [results,bS,go_sem,v0,v1,v2,v3,v4,v5]) rfl ?_;rw [LQ.out];exact⟨⟨(no,nn,nc),(ao,an,ac),(so,sn,sc),(eo,en,ec),(oo,dY,oc),rfl,HH.out.on FL.out,fun h=>h.on FL.out,fun h=>(h.resolve_right (by simp)).on FL.out⟩,FL.out⟩
abbrev Zy (me:Int) (near:List Int):Br:=⟨me,near,[],[],[],[]⟩
theorem TF (me:Int) (v:Sl) (l:List Int) (w:aB) (hv:qA w (dX v) l) (hl:l.length<=900) :
  bM aA 8 #[Z ah me,dX v] w fun e w'=>(∃ (l':List Int) (nv:Sl),e=aC (oK me nv (U,0,0) (U,0,0) (U,0,0) (U,0,0))/\iZ w' (Zy me l') nv (U,0,0) (U,0,0) (U,0,0) (U,0,0)/\(∃ B,vO w' B (dX nv) l')/\l'.Pairwise (·<·)/\∀ x,x∈l'↔x∈l)/\Below w.heap.size w w':=by
 have n0:=gu w (aM #[Z ah 0,J U 0 0,J U 0 0,J U 0 0,J U 0 0,J U 0 0] 28);have X:=O (dO w #[Z ah 0,J U 0 0,J U 0 0,J U 0 0,J U 0 0,J U 0 0] 28);have C:=O (zG v l _ (hv.on n0) hl);have B0:=O n0;have HL:=O hl;obtain⟨vo,vn,vc⟩:=v;clear hv hl n0;go_enter Tryz.func8,Tryz.ntmps8;go_wp2_with fail;generalize w.alloc (aM #[Z ah 0,J U 0 0,J U 0 0,J U 0 0,J U 0 0,J U 0 0] 28)=W at *;refine C.out.mono ?_;rintro e1 w1 ⟨⟨⟨p1,p2,p3⟩,rfl,ho⟩,hb⟩;have B1:=O (B0.out.trans (hb.mono B0.out.size));have X1:=O (X.out.on hb);have hlt:w.heap.size<W.heap.size:=X.out.lt;have C2:=O (PZ w1 W.heap.size _ l ho HL.out);have OT:=O (fun g hg=>(ho.lt g hg).1);have HW:=O hlt;clear hb ho C X;go_wp2_with fail;refine C2.out.mono ?_;rintro e2 w2 ⟨rfl,l2,ho2,hp2,hs2,hg2⟩;have B2:=O (B1.out.grown hg2 B1.out.size (fun j hj=>ak (aS HW.out) (OT.out j hj)));have X2:=O (show dJ w2 w.heap.size _ _ from (hg2.block _ X1.out.lt (fun e=>by have:=OT.out _ e.symm; have:=HW.out; omega)).trans X1.out);have C3:=O (Sn w2 W.heap.size (p1,p2,p3) l2 ho2 hs2 (by rw [hp2.length_eq]; exact HL.out));have PM:=O hp2;have OT2:=O (fun g hg=>(ho2.lt g hg).1);clear ho2 hp2 hs2 hg2 C2 OT X1;go_wp2_with fail;refine C3.out.mono ?_;rintro e3 w3 ⟨⟨⟨t1,t2,t3⟩,rfl,l3,ho3,hs3,hm3⟩,hg3⟩;have B3:=O (B2.out.grown hg3 B2.out.size (fun j hj=>ak (aS HW.out) (OT2.out j hj)));have Y:=show dJ w3 w.heap.size _ _ from (hg3.block _ X2.out.lt (fun e=>by have:=OT2.out _ e.symm; have:=HW.out; omega)).trans X2.out;obtain⟨y0,y1,y2,y3,y4,y5⟩:=Y.fu;obtain⟨f0,f1,f2,f3,f4,f5⟩:=Y.kD;have zz:=Y.lt;have FB:=O (dL Y (Z ah me) (J t1 t2 t3) (J U 0 0) (J U 0 0) (J U 0 0) (J U 0 0));have FL:=O (dG (b:=w.heap.size) B3.out (aN _) (Z ah me) (J t1 t2 t3) (J U 0 0) (J U 0 0) (J U 0 0) (J U 0 0));have FO:=O (fP ho3 w.heap.size HW.out (Z ah me) (J t1 t2 t3) (J U 0 0) (J U 0 0) (J U 0 0) (J U 0 0));have Q:=O (show l3.Pairwise (·<·)/\∀ x,x∈l3↔x∈l from ⟨hs3,fun x=>(hm3 x).trans PM.out.mem_iff⟩);clear ho3 hs3 hm3 hg3 Y X2 C3 B2 B1 B0;go_wp2_with fail;obtain⟨v0,v1,v2,v3,v4,v5⟩:=FB.out.fu;refine bodyPost_ret (v:=dB #[Z ah me,J t1 t2 t3,J U 0 0,J U 0 0,J U 0 0,J U 0 0]) (by simp [results,Tryz.results8,go_sem,v0,v1,v2,v3,v4,v5]) rfl ?_;exact⟨⟨l3,(t1,t2,t3),rfl,⟨aP FO.out,⟨[],ji _,.nil⟩,ji _,⟨[],ji _,.nil⟩,⟨[],ji _,.nil⟩⟩,⟨_,FO.out⟩,Q.out.1,Q.out.2⟩,FL.out⟩
structure tY (W:aB) (b:Br) (nv av sv ev ov:Sl):Prop where
 br:iZ W b nv av sv ev ov
 no:nT W nv b.near
theorem tY.on {W W':aB} {b:Br} {nv av sv ev ov:Sl} (h:tY W b nv av sv ev ov) (hb:Below W.heap.size W W'):tY W' b nv av sv ev ov:=⟨h.br.on hb,h.no.on hb⟩
theorem tY.keep {W W':aB} {k:Nat} {me:Int} {s1 s2 s3 s4 s5:Sl} {b:Br} {nv av sv ev ov:Sl} (h:tY W b nv av sv ev ov) (hb:dJ W k (jr me s1 s2 s3 s4 s5) 28) (hk:But k W W'):tY W' b nv av sv ev ov:=by
 obtain⟨B,hn⟩:=h.no;have hn2:vO W' B (dX nv) b.near:=hk.own hn hb (by decide);exact⟨fF h.br hb hk.1 (aP hn2),B,hn2⟩
theorem TI (W:aB) (me:Int) {near:List Int} {nv:Sl} (h:qA W (dX nv) near):iZ W ⟨me,near,[],[],[],[]⟩ nv (U,0,0) (U,0,0) (U,0,0) (U,0,0):=⟨h,⟨[],ji _,.nil⟩,ji _,⟨[],ji _,.nil⟩,⟨[],ji _,.nil⟩⟩
theorem Du:∀ {l m:List Int},l.Pairwise (·<·)->m.Pairwise (·<·)->(∀ x,x∈l↔x∈m)->l=m
 | [],[],_,_,_=>rfl
 | [],y::m,_,_,h=>by have:=(h y).2 (by simp); simp at this
 | x::l,[],_,_,h=>by have:=(h x).1 (by simp); simp at this
 | x::l,y::m,hl,hm,h=>by
  have hl':=bL.1 hl;have hm':=bL.1 hm;have h1:x=y:=by
   rcases aZ.1 ((h x).1 (by simp)) with e|e
   ·exact e
   ·rcases aZ.1 ((h y).2 (by simp)) with e2|e2
    ·exact e2.symm
    ·have a1:=hm'.1 x e;have a2:=hl'.1 y e2;omega
  subst h1;rw [Du hl'.2 hm'.2 fun z=>⟨fun hz=>?_,fun hz=>?_⟩]
  ·rcases aZ.1 ((h z).1 (bJ _ hz)) with e|e
   ·have:=hl'.1 z hz;omega
   ·exact e
  ·rcases aZ.1 ((h z).2 (bJ _ hz)) with e|e
   ·have:=hm'.1 z hz;omega
   ·exact e
theorem xQ {W W':aB} {b:Nat} (h:W.grownBy W' (au b)):But b W W':=⟨fun k hk hne=>h.block k hk (by simpa using hne),h.size⟩
theorem z8 {P:Program} (ρ:Operand->aR) (o:Oper) (y:Operand) (k:Nat) (ho:o.op=.extract y k) {c:Array aR} {v:aR} (hx:ρ y=.tuple c) (hv:c[k]?=au v) (w:aB):(execOp ρ o).run P w=.ok (.value v) w:=by
 simp [execOp,ho,hx,hv,go_sem]
end Av
namespace At
open Go.RowKit Go.Sort Va In
end At
namespace Rl
open Go.RowKit Pu Rw Pr
end Rl
namespace Rg
open Go.RowKit Rw Av
end Rg
end Go.Proofs.YtmklifheakemeaaGreat
