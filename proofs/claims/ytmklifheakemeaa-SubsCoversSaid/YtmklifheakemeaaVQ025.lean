/-
  put of package adver. Conditions as told.
-/
import Derived.Test.YtmklifheakemeaaVQ023
import Derived.Test.YtmklifheakemeaaVQ024
import Derived.Test.YtmklifheakemeaaVQ013
import Derived.Test.YtmklifheakemeaaVQ021
set_option maxRecDepth 100000
set_option maxHeartbeats 64000000
open _root_.Go renaming World->ak,Value->aB,TypeId->aG,Addr->aI
open Go.Ending renaming returned->ay
open Go.IntKind renaming i64->ah
open Go.Lib renaming hid->J
open Go.Obj renaming cells->aF
open Go.Value renaming pointer->U,slice->V,int->Z
open _root_.List renaming getElem?_toArray->au,getElem?_cons_zero->aC,getElem?_cons_succ->aD,map_cons->aH
open _root_.Nat renaming lt_of_lt_of_le->L,le_trans->O
open _root_.Option renaming some->aj,none->aA
namespace Go.Proofs.Ytmklifheakemeaa.Av
open Go.RowKit Go.Sort Rw Ytmklifheakemeaa.Nm Pr Bk
theorem Dn (l:List eu) (y:eu):iH ou l y<=l.length:=by
 rw [jU];exact O (mM _ _) (by simp)
theorem Gi (B:Nat) (v:Sl) (l:List eu) (x:eu) (w:ak) (ho:Own EJ w B (dR v) l) (hr:mo ou l) (hl:l.length<=900) (hB:B<=w.heap.size) :
  Calls Try.prog 23 #[dR v,pG x,.func (.func 24) #[] #[]] w fun e w'=>(∃ v':Sl,e=ay (dR v')/\Own EJ w' B (dR v') (fP l (iH ou l (ou x)) x))/\Below B w w'/\(∀ j,j<w.heap.size->aj j≠(dR v).ownBlock->w'.heap[j]?=w.heap[j]?):=by
 have h0:=iG w (aF #[Z ah x.1,Z ah x.2] 25);have X:=dO w #[Z ah x.1,Z ah x.2] 25;have C:=J (I9 (dR v) l x _ ((Row.dM ho).on h0) hr hl);obtain⟨ks,hks⟩:∃ k,k=iH ou l (ou x):=⟨_,rfl⟩;have KL:ks<=l.length:=by rw [hks]; exact Dn _ _
 rw [<- hks] at C;rw [<- hks];generalize kZ ou l (ou x)=th at *;have OW:=J (Bk.dB ho h0);have HV:=J (show (dR v).ownBlock≠aA->∃ g,(dR v).ownBlock=aj g/\g<w.heap.size from fun hne=>by
  cases hb:(dR v).ownBlock with
  | none=>exact absurd hb hne
  | some g=>exact⟨g,rfl,(ho.lt g hb).2⟩)
 have B0:=J ((Below.refl B w).alloc hB (aF #[Z ah x.1,Z ah x.2] 25));have PN:=J h0;have KK:=J KL;have LL:=J hl;have BB:=J hB;clear h0 ho hr hl hB hks KL;obtain⟨c1,c2⟩:=x;obtain⟨vo,vn,vc⟩:=v;simp only at C X;obtain⟨x0,x1⟩:=X.cs2;have XX:=J X;clear X;go_enter Try.func23,Try.ntmps23;go_wp2_with fail;have W1:=J (show w.heap.size<=(w.alloc (aF #[Z ah c1,Z ah c2] 25)).heap.size by simp);generalize w.alloc (aF #[Z ah c1,Z ah c2] 25)=W at *;refine C.out.mono ?_;rintro e w1 ⟨rfl,hb⟩;have Y:=XX.out.on hb;obtain⟨y0,y1⟩:=Y.cs2;have O1:=J (Bk.dB OW.out hb);have B1:=J (B0.out.trans (hb.mono (O BB.out W1.out)));have BW:=J (fun j (hj:j<w.heap.size)=>(hb.block j (L hj W1.out)).trans (PN.out.block j hj));have S1:=J (O W1.out hb.size);clear C Y hb x0 x1;go_wp2_with fail;have hl:=LL.out;have NB:=iG w1 (aF #[Z ah c1,Z ah c2] 25);refine (yw B _ l ks (c1,c2) w1.heap.size _ (Bk.dB O1.out NB) (dO w1 #[Z ah c1,Z ah c2] 25) ?_ KK.out (by omega) (O (O BB.out S1.out) NB.size)).mono ?_
 ·intro he;obtain⟨g,hg,hlt⟩:=HV.out (by rw [he]; simp);rw [he] at hg;have:=Option.some.inj hg;have:=S1.out;omega
 rintro e w2 ⟨v',rfl,ho,hb,hoth⟩;obtain⟨a1,a2,hv⟩:=(Row.dM ho).len;have Q:=J (show (∃ v'':Sl,ay v'=ay (dR v'')/\Own EJ w2 B (dR v'') (fP l ks (c1,c2)))/\Below B w w2/\(∀ j,j<w.heap.size->aj j≠(dR (vo,vn,vc)).ownBlock->w2.heap[j]?=w.heap[j]?) from ⟨⟨(a1,_,a2),by rw [hv],by subst hv; simpa [fP] using ho⟩,(B1.out.trans (NB.mono (O BB.out S1.out))).trans hb,fun j hj hne=>(hoth j (L (L hj S1.out) NB.size) hne).trans ((NB.block j (L hj S1.out)).trans (BW.out j hj))⟩);clear ho hb hv hl NB;go_wp2;go_ret;exact Q.out
theorem Dp (l:List jr) (y:eu):iH lX l y<=l.length:=by
 rw [jU];exact O (mM _ _) (by simp)
theorem Gj (B:Nat) (v:Sl) (l:List jr) (x:jr) (w:ak) (ho:Own ED w B (dR v) l) (hr:mo lX l) (hl:l.length<=900) (hB:B<=w.heap.size) :
  Calls Try.prog 20 #[dR v,kL x,.func (.func 22) #[] #[]] w fun e w'=>(∃ v':Sl,e=ay (dR v')/\Own ED w' B (dR v') (fP l (iH lX l (lX x)) x))/\Below B w w'/\(∀ j,j<w.heap.size->aj j≠(dR v).ownBlock->w'.heap[j]?=w.heap[j]?):=by
 have h0:=iG w (aF #[Z ah x.1,Z ah x.2.1,dR x.2.2.1,Z ah x.2.2.2] 37);have X:=dO w #[Z ah x.1,Z ah x.2.1,dR x.2.2.1,Z ah x.2.2.2] 37;have C:=J (Ja (dR v) l x _ ((Row.dM ho).on h0) hr hl);obtain⟨ks,hks⟩:∃ k,k=iH lX l (lX x):=⟨_,rfl⟩;have KL:ks<=l.length:=by rw [hks]; exact Dp _ _
 have e1:lX x=(x.1,x.2.1):=rfl;rw [<- e1] at C;rw [<- hks] at C;rw [<- hks];generalize kZ lX l (lX x)=th at *;have OW:=J (Bk.dB ho h0);have HV:=J (show (dR v).ownBlock≠aA->∃ g,(dR v).ownBlock=aj g/\g<w.heap.size from fun hne=>by
  cases hb:(dR v).ownBlock with
  | none=>exact absurd hb hne
  | some g=>exact⟨g,rfl,(ho.lt g hb).2⟩)
 have B0:=J ((Below.refl B w).alloc hB (aF #[Z ah x.1,Z ah x.2.1,dR x.2.2.1,Z ah x.2.2.2] 37));have PN:=J h0;have KK:=J KL;have LL:=J hl;have BB:=J hB;clear h0 ho hr hl hB hks KL;obtain⟨c1,c2,⟨c3,c4,c5⟩,c6⟩:=x;obtain⟨vo,vn,vc⟩:=v;simp only at C X;obtain⟨x0,x1,x2,x3⟩:=X.Ew;have XX:=J X;clear X;go_enter Try.func20,Try.ntmps20;go_wp2_with fail;have W1:=J (show w.heap.size<=(w.alloc (aF #[Z ah c1,Z ah c2,V c3 c4 c5,Z ah c6] 37)).heap.size by simp);generalize w.alloc (aF #[Z ah c1,Z ah c2,V c3 c4 c5,Z ah c6] 37)=W at *;refine C.out.mono ?_;rintro e w1 ⟨rfl,hb⟩;have Y:=XX.out.on hb;obtain⟨y0,y1,y2,y3⟩:=Y.Ew;have O1:=J (Bk.dB OW.out hb);have B1:=J (B0.out.trans (hb.mono (O BB.out W1.out)));have BW:=J (fun j (hj:j<w.heap.size)=>(hb.block j (L hj W1.out)).trans (PN.out.block j hj));have S1:=J (O W1.out hb.size);clear C Y hb x0 x1 x2 x3;go_wp2_with fail;have hl:=LL.out;have NB:=iG w1 (aF #[Z ah c1,Z ah c2,V c3 c4 c5,Z ah c6] 37);refine (yA B _ l ks (c1,c2,(c3,c4,c5),c6) w1.heap.size _ (Bk.dB O1.out NB) (dO w1 #[Z ah c1,Z ah c2,V c3 c4 c5,Z ah c6] 37) ?_ KK.out (by omega) (O (O BB.out S1.out) NB.size)).mono ?_
 ·intro he;obtain⟨g,hg,hlt⟩:=HV.out (by rw [he]; simp);rw [he] at hg;have:=Option.some.inj hg;have:=S1.out;omega
 rintro e w2 ⟨v',rfl,ho,hb,hoth⟩;obtain⟨a1,a2,hv⟩:=(Row.dM ho).len;have Q:=J (show (∃ v'':Sl,ay v'=ay (dR v'')/\Own ED w2 B (dR v'') (fP l ks (c1,c2,(c3,c4,c5),c6)))/\Below B w w2/\(∀ j,j<w.heap.size->aj j≠(dR (vo,vn,vc)).ownBlock->w2.heap[j]?=w.heap[j]?) from ⟨⟨(a1,_,a2),by rw [hv],by subst hv; simpa [fP] using ho⟩,(B1.out.trans (NB.mono (O BB.out S1.out))).trans hb,fun j hj hne=>(hoth j (L (L hj S1.out) NB.size) hne).trans ((NB.block j (L hj S1.out)).trans (BW.out j hj))⟩);clear ho hb hv hl NB;go_wp2;go_ret;exact Q.out
def Off (ob:Option Nat) (W x:ak):Prop:=(∀ j,j<W.heap.size->aj j≠ob->x.heap[j]?=W.heap[j]?)/\W.heap.size<=x.heap.size
def Tag (ob:Option Nat) (W:ak) (t:aG):Prop:=∀ g,ob=aj g->∃ d,dH W g d t
theorem iA {α:Type} {E:Ek α} {W:ak} {B:Nat} {v:aB} {l:List α} (h:Own E W B v l):Tag v.ownBlock W E.t:=by
 intro g hg;rcases fD h with⟨rfl,_⟩|⟨g',c',cur,rfl,_,h2,_⟩
 ·cases hg
 ·obtain rfl:g'=g:=by simpa [Value.ownBlock] using hg
  exact⟨cur,h2⟩
theorem Off.own {α:Type} {E:Ek α} {ob:Option Nat} {W x:ak} {B:Nat} {v:aB} {l:List α} {t:aG} (h:Off ob W x) (ho:Own E W B v l) (hg:Tag ob W t) (hne:(E.t == t)=false):Own E x B v l:=by
 refine⟨ho.1,?_⟩;rcases ho.2 with h2|⟨g',cap,cur,h1,h2,h3,h4⟩
 ·exact Or.inl h2
 ·refine Or.inr ⟨g',cap,cur,h1,h2,?_,h4⟩;rw [h.1 g' (lt_of_heap h3) fun e=>by
   obtain⟨d,hd⟩:=hg g' e.symm;exact iO (show dH W g' cur E.t from h3) hd hne rfl]
  exact h3
theorem Off.box {ob:Option Nat} {W x:ak} {b:Nat} {cs:Array aB} {s t:aG} (h:Off ob W x) (hb:dH W b cs s) (hg:Tag ob W t) (hne:(s == t)=false):dH x b cs s:=(h.1 b hb.lt fun e=>by
 obtain⟨d,hd⟩:=hg b e.symm;exact iO hb hd hne rfl).trans hb
theorem PM.off {w0 wr x:ak} {B:Nat} {v:aB} {p:List C5} {ob:Option Nat} {t:aG} (h:PM w0 B wr v p) (hb:Off ob wr x) (hg:Tag ob wr t) (hne:(56 == t)=false):PM w0 B x v p:=h.imp id fun h=>hb.own h hg hne
theorem zV.off {w0 wr x:ak} {B:Nat} {y:jr} {a:Ad} {ob:Option Nat} {t:aG} (h:zV w0 B wr y a) (hb:Off ob wr x) (hg:Tag ob wr t) (hne:(56 == t)=false):zV w0 B x y a:=⟨h.1,h.2.1,h.2.2.off hb hg hne⟩
theorem mh.off {w0 wr x:ak} {B:Nat} {y:gM} {a:En} {ob:Option Nat} {t:aG} (h:mh w0 B wr y a) (hb:Off ob wr x) (hg:Tag ob wr t) (hne:(56 == t)=false):mh w0 B x y a:=⟨h.1,h.2.1,h.2.2.1,h.2.2.2.1,h.2.2.2.2.off hb hg hne⟩
theorem Bu.off {w0 wr x:ak} {B:Nat} {y:uL} {a:Ow} {ob:Option Nat} {t:aG} (h:Bu w0 B wr y a) (hb:Off ob wr x) (hg:Tag ob wr t) (hne:(56 == t)=false):Bu w0 B x y a:=⟨h.1,h.2.off hb hg hne⟩
theorem Cp.PS {w0 wr x:ak} {B:Nat} {b:Br} {nv av sv ev ov LU:Sl} {al:List Ad} (h:Cp w0 B wr b nv av sv ev ov) (hb:Off (dR av).ownBlock wr x) (hx:∃ l,oL x B (dR LU) l/\eF (zV w0 B x) l al):Cp w0 B x { b with fI:=al } nv LU sv ev ov:=by
 obtain⟨l0,hl0,_⟩:=h.fI;have hg:=iA hl0;exact {
  near:=hb.own h.near hg (by decide)
  seen:=hb.own h.seen hg (by decide)
  fI:=hx
  ent:=by obtain⟨l,h1,h2⟩:=h.ent; exact⟨l,hb.own h1 hg (by decide),h2.mono fun _ _ h=>h.off hb hg (by decide)⟩
  own:=by obtain⟨l,h1,h2⟩:=h.own; exact⟨l,hb.own h1 hg (by decide),h2.mono fun _ _ h=>h.off hb hg (by decide)⟩ }
theorem Cp.Jb {w0 wr x:ak} {B:Nat} {b:Br} {nv av sv ev ov ev':Sl} {el:List En} (h:Cp w0 B wr b nv av sv ev ov) (hb:Off (dR ev).ownBlock wr x) (hx:∃ l,jl x B (dR ev') l/\eF (mh w0 B x) l el):Cp w0 B x { b with ent:=el } nv av sv ev' ov:=by
 obtain⟨l0,hl0,_⟩:=h.ent;have hg:=iA hl0;exact {
  near:=hb.own h.near hg (by decide)
  seen:=hb.own h.seen hg (by decide)
  fI:=by obtain⟨l,h1,h2⟩:=h.fI; exact⟨l,hb.own h1 hg (by decide),h2.mono fun _ _ h=>h.off hb hg (by decide)⟩
  ent:=hx
  own:=by obtain⟨l,h1,h2⟩:=h.own; exact⟨l,hb.own h1 hg (by decide),h2.mono fun _ _ h=>h.off hb hg (by decide)⟩ }
theorem Cp.PU {w0 wr x:ak} {B:Nat} {b:Br} {nv av sv ev ov LW:Sl} {sl:List eu} (h:Cp w0 B wr b nv av sv ev ov) (hb:Off (dR sv).ownBlock wr x) (hx:mG x B (dR LW) sl):Cp w0 B x { b with seen:=sl } nv av LW ev ov:=by
 have hg:=iA h.seen;exact {
  near:=hb.own h.near hg (by decide)
  seen:=hx
  fI:=by obtain⟨l,h1,h2⟩:=h.fI; exact⟨l,hb.own h1 hg (by decide),h2.mono fun _ _ h=>h.off hb hg (by decide)⟩
  ent:=by obtain⟨l,h1,h2⟩:=h.ent; exact⟨l,hb.own h1 hg (by decide),h2.mono fun _ _ h=>h.off hb hg (by decide)⟩
  own:=by obtain⟨l,h1,h2⟩:=h.own; exact⟨l,hb.own h1 hg (by decide),h2.mono fun _ _ h=>h.off hb hg (by decide)⟩ }
theorem sN {α β:Type} {R:α->β->Prop} {l:List α} {m:List β} (h:eF R l m) (k:Nat) {a:α} {b:β} (hr:R a b):eF R (fP l k a) (fP m k b) :=
 ((h.take k).append (.cons hr .nil)).append (h.drop k)
theorem keys_eq {w0 wr:ak} {B:Nat}:∀ {l:List jr} {al:List Ad},eF (zV w0 B wr) l al->l.map lX=al.map Ad.id
 | _,_,.nil=>rfl
 | _,_,.cons h t=>by rw [aH,aH,keys_eq t]; exact congrArg (·::_) h.1
theorem vQ {α:Type} (key:α->eu) (l:List α):mo key l↔mo (fun x:eu=>x) (l.map key):=by
 unfold mo;rw [List.pairwise_map]
def Ca (B:Nat) (b1 _b2:Nat) (_me:Int) (_z1:aB) (o2:Option aI) (n2 c2:Nat) (_z3 _z4 _z5:aB) (y1 y2:Int) (yo:Option aI) (yn yc:Nat) (y4:Int) (p:List C5) (i:Nat) (v:aB) (x:ak):Prop :=
 match i with
 | 0=>v=U (aj ⟨b1,2,aA⟩)
 | 1=>v=V o2 n2 c2
 | 2=>v=.agg #[Z ah y1,Z ah y2,V yo yn yc,Z ah y4]
 | 3=>∃ s:Sl,v=kL (y1,y2,s,y4)/\qA x B (dR s) p
 | _=>True
noncomputable def JM:Code:=((Try.f5.body.bind (dZ 4)).getD .skip)
theorem Gl (B:Nat) (b1 b2:Nat) (me:Int) (z1:aB) (o2:Option aI) (n2 c2:Nat) (z3 z4 z5:aB) (y1 y2:Int) (yo:Option aI) (yn yc:Nat) (y4:Int) (p:List C5) (i:Nat) (v:aB) (x x':ak) (h:Ca B b1 b2 me z1 o2 n2 c2 z3 z4 z5 y1 y2 yo yn yc y4 p i v x) (hb:Below x.heap.size x x'):Ca B b1 b2 me z1 o2 n2 c2 z3 z4 z5 y1 y2 yo yn yc y4 p i v x':=by
 by_cases hi:i<4
 ·rcases (by omega:i=0\/i=1\/i=2\/i=3) with rfl|rfl|rfl|rfl
  ·exact h
  ·exact h
  ·exact h
  ·obtain⟨s,h1,h2⟩:=h; exact⟨s,h1,Bk.dB h2 hb⟩
 ·unfold Ca
  split <;> first | omega | trivial
theorem PV (Q:Exit->Act->ak->Prop) (W:ak) (B0:Nat) (l:List jr) (b1 b2:Nat) (me:Int) (z1:aB) (o2:Option aI) (n2 c2:Nat) (z3 z4 z5:aB) (y1 y2:Int) (yo:Option aI) (yn yc:Nat) (y4:Int) (p:List C5) (u0 u1 u4 u5 u6 u7 u8 u9 u10 u11 u12 u13 u14 u15 u16 u17 u18 u19 u20 u21 u22 u23 u24 u25:aB)
  (h1:dH W b1 #[Z ah me,z1,V o2 n2 c2,z3,z4,z5] 31) (h2:dH W b2 #[Z ah y1,Z ah y2,V yo yn yc,Z ah y4] 37) (ho:oL W B0 (V o2 n2 c2) l) (hr:mo lX l) (hl:l.length<=900) (hB:B0<=W.heap.size) (hb0:b1<B0) (hp:iy W (V yo yn yc) p) (lp:p.length<=900)
  (hQ:∀ (w1:ak) (v13 v14 v15 v16 v17 v18:aB) (s1:Option aI) (s2 s3:Nat) (t1:Option aI) (t2 t3:Nat),dH w1 b1 #[Z ah me,z1,V o2 n2 c2,z3,z4,z5] 31->oL w1 B0 (V t1 t2 t3) (fP l (iH lX l (y1,y2)) (y1,y2,(s1,s2,s3),y4))->qA w1 W.heap.size (V s1 s2 s3) p->Off (dR (o2,n2,c2)).ownBlock W w1->Below B0 W w1->Q .normal ⟨(u0::u1::U (aj ⟨b1,0,aA⟩)::U (aj ⟨b2,0,aA⟩)::u4::u5::u6::u7::u8::u9::u10::u11::u12::v13::v14::v15::v16::v17::v18::u19::u20::u21::u22::u23::u24::u25::[]).toArray,[]⟩ (w1.setCell ⟨b1,2,aA⟩ (V t1 t2 t3))) :
  Code.wp Try.prog JM Q ⟨(u0::u1::U (aj ⟨b1,0,aA⟩)::U (aj ⟨b2,0,aA⟩)::u4::u5::u6::u7::u8::u9::u10::u11::u12::u13::u14::u15::u16::u17::u18::u19::u20::u21::u22::u23::u24::u25::[]).toArray,[]⟩ W:=by
 have HQ:=J hQ;have H1:=J h1;have H2:=J h2;have HO:=J ho;have HR:=J hr;have HL:=J hl;have HB:=J hB;have H0:=J hb0;have HP:=J hp;have LP:=J lp;clear hQ h1 h2 ho hr hl hB hb0 hp lp;have mQ:=Gl W.heap.size b1 b2 me z1 o2 n2 c2 z3 z4 z5 y1 y2 yo yn yc y4 p;unfold JM
 conv=>arg 2; whnf
 have nd:∀ j,(j<13\/17<=j)->∀ i,i<4->(fun i=>13+i) i≠j:=by
  intro j hj i hi h;simp only at h;omega
 refine Rg.iF 7 4 (fun i=>13+i) (fun _=>4) (Ca W.heap.size b1 b2 me z1 o2 n2 c2 z3 z4 z5 y1 y2 yo yn yc y4 p) (by kernel_rfl) (by kernel_rfl) rfl (by decide) (fun i j _ _ h=>by have h2:13+i=13+j:=h; omega) (fun i hi=>by show 13+i<26; omega) ?_ (fun _=>Rg.kQ 14 (by kernel_rfl)) ?_ ?_
 ·intro i o hi ho a x D hnd hc hD hb seen K hK;clear HQ;rcases (by omega:i=0\/i=1\/i=2\/i=3) with rfl|rfl|rfl|rfl
  ·cases ho;have e2:a.eval (.tmp 2)=U (aj ⟨b1,0,aA⟩):=seen.kp 2 _ (nd 2 (by omega)) rfl;exact Rg.dz rfl rfl (Rg.fu a.eval _ 31 (.tmp 2) 2 rfl (by rw [e2]; simp [go_sem])) (hK _ _ rfl (Below.refl _ _) fun _ _ _ _ _ _ _ h=>h)
  ·cases ho;have e13:a.eval (.tmp 13)=U (aj ⟨b1,2,aA⟩):=seen.at_ ⟨0,.data⟩ (by simp) rfl (Or.inr (by decide));have y2:=(H1.out.on hb).cell 2;simp only [au,aC,aD] at y2;exact Rg.dz rfl rfl (Rg.dV a.eval _ 26 (.tmp 13) rfl (by rw [e13]; simp [go_sem,y2])) (hK _ _ rfl (Below.refl _ _) fun _ _ _ _ _ _ _ h=>h)
  ·cases ho;have e3:a.eval (.tmp 3)=U (aj ⟨b2,0,aA⟩):=seen.kp 3 _ (nd 3 (by omega)) rfl;obtain⟨y0,y1,y2,y3⟩:=(H2.out.on hb).Ew;exact Rg.dz rfl rfl (Rg.dV a.eval _ 37 (.tmp 3) rfl (by rw [e3]; simp [go_sem,y0,y1,y2,y3])) (hK _ _ rfl (Below.refl _ _) fun _ _ _ _ _ _ _ h=>h)
  ·cases ho;have e15:a.eval (.tmp 15)=.agg #[Z ah y1,Z ah y2,V yo yn yc,Z ah y4]:=seen.at_ ⟨2,.data⟩ (by simp) rfl (Or.inr (by decide));exact Rg.fH rfl rfl (Rw.gT a.eval _ (.tmp 15) 37 21 rfl e15 rfl _ (eT Try.func21 rfl rfl _ _)) (rX (y1,y2,(yo,yn,yc),y4) p x (HP.out.on hb) LP.out) fun e w1 h=>by
    obtain⟨⟨s,rfl,h1⟩,h3⟩:=h;exact⟨_,rfl,hK _ _ ⟨s,rfl,dK h1 hb.size⟩ (h3.mono hb.size) fun j u hj _ _ _ hne h=>mQ j u _ _ h h3⟩
 ·intro kk o h1 h2 ho;rcases (by omega:kk=5\/kk=6) with rfl|rfl
  ·cases ho;exact⟨⟨4,.phase⟩,by simp,rfl,rfl⟩
  ·cases ho;exact⟨⟨5,.data⟩,by simp,rfl,rfl⟩
 ·intro a w' df sz kp ⟨vs,hv⟩ hb;have sz':a.tmps.size=26:=sz;have g2:a.tmps[2]?=aj (U (aj ⟨b1,0,aA⟩)):=(kp 2 (nd 2 (by omega))).trans rfl;have g14:a.tmps[14]?=aj (V o2 n2 c2):=by
   have h:vs 1=V o2 n2 c2:=(hv 1 (by omega)).2 (by decide);rw [<- h];exact (hv 1 (by omega)).1
  obtain⟨⟨s1,s2,s3⟩,hs,hc⟩:=(hv 3 (by omega)).2 (by decide);have g16:a.tmps[16]?=aj (kL (y1,y2,(s1,s2,s3),y4)):=((hv 3 (by omega)).1).trans (congrArg aj hs);have B1:=H1.out.on hb;show Rg.fQ _ _ _ 3 4 a w';simp only [Rg.fQ];refine Rg.fH rfl rfl (nU a.eval _ (.tmp 14) (.tmp 16) (.func 22) 26 37 61 20 rfl (Rg.dF g14) (Rg.dF g16) rfl rfl _ (eT Try.func20 rfl rfl _ _)) (Gj B0 (o2,n2,c2) l (y1,y2,(s1,s2,s3),y4) w' (Bk.dB HO.out hb) HR.out HL.out (O HB.out hb.size)) fun e w1 h=>?_;obtain⟨⟨⟨t1,t2,t3⟩,rfl,hown⟩,hbel,hoth⟩:=h;refine⟨_,rfl,?_⟩;have PW:(a.put (aj 17) (V t1 t2 t3)).tmps[17]?=aj (V t1 t2 t3):=by simp [Act.put,sz']
  show Go.wpOp _ _ _ 5 _ (a.put (aj 17) (V t1 t2 t3)) _;refine Rg.dz rfl rfl (Rg.fu _ _ 31 (.tmp 2) 2 rfl (v:=U (aj ⟨b1,2,aA⟩)) (by rw [Rg.dF ((Rg.get_put _ 17 _ 2 (by decide)).trans g2)]; simp [go_sem])) ?_;have PY:((a.put (aj 17) (V t1 t2 t3)).put (aj 18) (U (aj ⟨b1,2,aA⟩))).tmps[18]?=aj (U (aj ⟨b1,2,aA⟩)):=by simp [Act.put,sz']
  show Go.wpOp _ _ _ 6 _ ((a.put (aj 17) (V t1 t2 t3)).put (aj 18) (U (aj ⟨b1,2,aA⟩))) _;have B2:dH w1 b1 _ _:=(hbel.block b1 H0.out).trans B1;have cx:=B2.cell 2;have fx:=B2.fr 2;simp only [au,aC,aD] at cx;refine Rg.fK 26 (.tmp 18) (.tmp 17) rfl rfl rfl rfl (Rg.dF PY) (Rg.dF ((Rg.get_put _ 18 _ 17 (by decide)).trans PW)) (w':=w1.setCell ⟨b1,2,aA⟩ (V t1 t2 t3)) (by simp [go_sem,cx,fx]) ?_;have SQ:Off (dR (o2,n2,c2)).ownBlock w' w1:=⟨hoth,hbel.size⟩;have SX:Off (dR (o2,n2,c2)).ownBlock W w1:=⟨fun j hj hne=>(hoth j (L hj hb.size) hne).trans (hb.block j hj),O hb.size hbel.size⟩;have uR:∀ j,(j<13\/19<=j)->((a.put (aj 17) (V t1 t2 t3)).put (aj 18) (U (aj ⟨b1,2,aA⟩))).tmps[j]?=(u0::u1::U (aj ⟨b1,0,aA⟩)::U (aj ⟨b2,0,aA⟩)::u4::u5::u6::u7::u8::u9::u10::u11::u12::u13::u14::u15::u16::u17::u18::u19::u20::u21::u22::u23::u24::u25::[])[j]?:=fun j hj=>(Rg.get_put _ 18 _ j (by omega)).trans ((Rg.get_put _ 17 _ j (by omega)).trans ((kp j (nd j (by omega))).trans au));obtain⟨mid,hmid,hfr⟩:=Rg.gQ (a:=(a.put (aj 17) (V t1 t2 t3)).put (aj 18) (U (aj ⟨b1,2,aA⟩))) 13 6 df (by simp [Rg.size_put,sz']) (by simp) uR;show Q .normal ((a.put (aj 17) (V t1 t2 t3)).put (aj 18) (U (aj ⟨b1,2,aA⟩))) _;rw [hfr]
  match mid,hmid with
  | [v13,v14,v15,v16,v17,v18],_ =>
   exact HQ.out w1 _ _ _ _ _ _ s1 s2 s3 t1 t2 t3 B2 hown (SQ.own hc (iA (Bk.dB HO.out hb)) (by decide)) SX ((hb.mono HB.out).trans hbel)
end Go.Proofs.Ytmklifheakemeaa.Av
