/-
  put of package adver. Conditions as told.
-/
import Derived.Test.YtmklifheakemeaaOQ018
import Derived.Test.YtmklifheakemeaaOQ019
import Derived.Test.YtmklifheakemeaaOQ022
set_option maxRecDepth 100000
set_option maxHeartbeats 64000000
open _root_.Go renaming World->ak,Value->aB,TypeId->aG,Addr->aI
open Go.Ending renaming returned->ay
open Go.IntKind renaming i64->ah
open Go.Lib renaming hid->J
open Go.Obj renaming cells->aF
open Go.Value renaming pointer->U,slice->V,int->Z
open _root_.List renaming getElem?_toArray->au,getElem?_cons_zero->aC,getElem?_cons_succ->aD,map_cons->aH
open _root_.Nat renaming lt_of_lt_of_le->L,le_trans->O
open _root_.Option renaming some->aj,none->aA
namespace Go.Proofs.Ytmklifheakemeaa.Av
open Go.RowKit Go.Sort Rw Ytmklifheakemeaa.Nm Pr Bk
theorem yZ (l:List dW) (y:dW):gV lT l y<=l.length:=by
 rw [jo];exact O (kI _ _) (by simp)
theorem Bw (B:Nat) (v:Sl) (l:List dW) (x:dW) (w:ak) (ho:Own EJ w B (dO v) l) (hr:kg lT l) (hl:l.length<=900) (hB:B<=w.heap.size) :
  Calls Try.prog 23 #[dO v,mO x,.func (.func 24) #[] #[]] w fun e w'=>(∃ v':Sl,e=ay (dO v')/\Own EJ w' B (dO v') (fF l (gV lT l (lT x)) x))/\Below B w w'/\(∀ j,j<w.heap.size->aj j≠(dO v).ownBlock->w'.heap[j]?=w.heap[j]?):=by
 have h0:=gK w (aF #[Z ah x.1,Z ah x.2] 25);have X:=dI w #[Z ah x.1,Z ah x.2] 25;have C:=J (Fg (dO v) l x _ ((Row.dG ho).on h0) hr hl);obtain⟨ks,hks⟩:∃ k,k=gV lT l (lT x):=⟨_,rfl⟩;have KL:ks<=l.length:=by rw [hks]; exact yZ _ _
 rw [<- hks] at C;rw [<- hks];generalize jF lT l (lT x)=th at *;have OW:=J (Bk.dB ho h0);have HV:=J (show (dO v).ownBlock≠aA->∃ g,(dO v).ownBlock=aj g/\g<w.heap.size from fun hne=>by
  cases hb:(dO v).ownBlock with
  | none=>exact absurd hb hne
  | some g=>exact⟨g,rfl,(ho.lt g hb).2⟩)
 have B0:=J ((Below.refl B w).alloc hB (aF #[Z ah x.1,Z ah x.2] 25));have N8:=J h0;have KK:=J KL;have LL:=J hl;have BB:=J hB;clear h0 ho hr hl hB hks KL;obtain⟨c1,c2⟩:=x;obtain⟨vo,vn,vc⟩:=v;simp only at C X;obtain⟨x0,x1⟩:=X.cs2;have XX:=J X;clear X;go_enter Try.func23,Try.ntmps23;go_wp2_with fail;have W1:=J (show w.heap.size<=(w.alloc (aF #[Z ah c1,Z ah c2] 25)).heap.size by simp);generalize w.alloc (aF #[Z ah c1,Z ah c2] 25)=W at *;refine C.out.mono ?_;rintro e w1 ⟨rfl,hb⟩;have Y:=XX.out.on hb;obtain⟨y0,y1⟩:=Y.cs2;have O1:=J (Bk.dB OW.out hb);have B1:=J (B0.out.trans (hb.mono (O BB.out W1.out)));have BW:=J (fun j (hj:j<w.heap.size)=>(hb.block j (L hj W1.out)).trans (N8.out.block j hj));have S1:=J (O W1.out hb.size);clear C Y hb x0 x1;go_wp2_with fail;have hl:=LL.out;have NB:=gK w1 (aF #[Z ah c1,Z ah c2] 25);refine (uN B _ l ks (c1,c2) w1.heap.size _ (Bk.dB O1.out NB) (dI w1 #[Z ah c1,Z ah c2] 25) ?_ KK.out (by omega) (O (O BB.out S1.out) NB.size)).mono ?_
 ·intro he;obtain⟨g,hg,hlt⟩:=HV.out (by rw [he]; simp);rw [he] at hg;have:=Option.some.inj hg;have:=S1.out;omega
 rintro e w2 ⟨v',rfl,ho,hb,hoth⟩;obtain⟨a1,a2,hv⟩:=(Row.dG ho).len;have Q:=J (show (∃ v'':Sl,ay v'=ay (dO v'')/\Own EJ w2 B (dO v'') (fF l ks (c1,c2)))/\Below B w w2/\(∀ j,j<w.heap.size->aj j≠(dO (vo,vn,vc)).ownBlock->w2.heap[j]?=w.heap[j]?) from ⟨⟨(a1,_,a2),by rw [hv],by subst hv; simpa [fF] using ho⟩,(B1.out.trans (NB.mono (O BB.out S1.out))).trans hb,fun j hj hne=>(hoth j (L (L hj S1.out) NB.size) hne).trans ((NB.block j (L hj S1.out)).trans (BW.out j hj))⟩);clear ho hb hv hl NB;go_wp2;go_ret;exact Q.out
theorem y8 (l:List iN) (y:dW):gV jX l y<=l.length:=by
 rw [jo];exact O (kI _ _) (by simp)
theorem Bz (B:Nat) (v:Sl) (l:List iN) (x:iN) (w:ak) (ho:Own ED w B (dO v) l) (hr:kg jX l) (hl:l.length<=900) (hB:B<=w.heap.size) :
  Calls Try.prog 20 #[dO v,jv x,.func (.func 22) #[] #[]] w fun e w'=>(∃ v':Sl,e=ay (dO v')/\Own ED w' B (dO v') (fF l (gV jX l (jX x)) x))/\Below B w w'/\(∀ j,j<w.heap.size->aj j≠(dO v).ownBlock->w'.heap[j]?=w.heap[j]?):=by
 have h0:=gK w (aF #[Z ah x.1,Z ah x.2.1,dO x.2.2.1,Z ah x.2.2.2] 37);have X:=dI w #[Z ah x.1,Z ah x.2.1,dO x.2.2.1,Z ah x.2.2.2] 37;have C:=J (Fh (dO v) l x _ ((Row.dG ho).on h0) hr hl);obtain⟨ks,hks⟩:∃ k,k=gV jX l (jX x):=⟨_,rfl⟩;have KL:ks<=l.length:=by rw [hks]; exact y8 _ _
 have e1:jX x=(x.1,x.2.1):=rfl;rw [<- e1] at C;rw [<- hks] at C;rw [<- hks];generalize jF jX l (jX x)=th at *;have OW:=J (Bk.dB ho h0);have HV:=J (show (dO v).ownBlock≠aA->∃ g,(dO v).ownBlock=aj g/\g<w.heap.size from fun hne=>by
  cases hb:(dO v).ownBlock with
  | none=>exact absurd hb hne
  | some g=>exact⟨g,rfl,(ho.lt g hb).2⟩)
 have B0:=J ((Below.refl B w).alloc hB (aF #[Z ah x.1,Z ah x.2.1,dO x.2.2.1,Z ah x.2.2.2] 37));have N8:=J h0;have KK:=J KL;have LL:=J hl;have BB:=J hB;clear h0 ho hr hl hB hks KL;obtain⟨c1,c2,⟨c3,c4,c5⟩,c6⟩:=x;obtain⟨vo,vn,vc⟩:=v;simp only at C X;obtain⟨x0,x1,x2,x3⟩:=X.Ak;have XX:=J X;clear X;go_enter Try.func20,Try.ntmps20;go_wp2_with fail;have W1:=J (show w.heap.size<=(w.alloc (aF #[Z ah c1,Z ah c2,V c3 c4 c5,Z ah c6] 37)).heap.size by simp);generalize w.alloc (aF #[Z ah c1,Z ah c2,V c3 c4 c5,Z ah c6] 37)=W at *;refine C.out.mono ?_;rintro e w1 ⟨rfl,hb⟩;have Y:=XX.out.on hb;obtain⟨y0,y1,y2,y3⟩:=Y.Ak;have O1:=J (Bk.dB OW.out hb);have B1:=J (B0.out.trans (hb.mono (O BB.out W1.out)));have BW:=J (fun j (hj:j<w.heap.size)=>(hb.block j (L hj W1.out)).trans (N8.out.block j hj));have S1:=J (O W1.out hb.size);clear C Y hb x0 x1 x2 x3;go_wp2_with fail;have hl:=LL.out;have NB:=gK w1 (aF #[Z ah c1,Z ah c2,V c3 c4 c5,Z ah c6] 37);refine (uD B _ l ks (c1,c2,(c3,c4,c5),c6) w1.heap.size _ (Bk.dB O1.out NB) (dI w1 #[Z ah c1,Z ah c2,V c3 c4 c5,Z ah c6] 37) ?_ KK.out (by omega) (O (O BB.out S1.out) NB.size)).mono ?_
 ·intro he;obtain⟨g,hg,hlt⟩:=HV.out (by rw [he]; simp);rw [he] at hg;have:=Option.some.inj hg;have:=S1.out;omega
 rintro e w2 ⟨v',rfl,ho,hb,hoth⟩;obtain⟨a1,a2,hv⟩:=(Row.dG ho).len;have Q:=J (show (∃ v'':Sl,ay v'=ay (dO v'')/\Own ED w2 B (dO v'') (fF l ks (c1,c2,(c3,c4,c5),c6)))/\Below B w w2/\(∀ j,j<w.heap.size->aj j≠(dO (vo,vn,vc)).ownBlock->w2.heap[j]?=w.heap[j]?) from ⟨⟨(a1,_,a2),by rw [hv],by subst hv; simpa [fF] using ho⟩,(B1.out.trans (NB.mono (O BB.out S1.out))).trans hb,fun j hj hne=>(hoth j (L (L hj S1.out) NB.size) hne).trans ((NB.block j (L hj S1.out)).trans (BW.out j hj))⟩);clear ho hb hv hl NB;go_wp2;go_ret;exact Q.out
def Off (ob:Option Nat) (W x:ak):Prop:=(∀ j,j<W.heap.size->aj j≠ob->x.heap[j]?=W.heap[j]?)/\W.heap.size<=x.heap.size
def Tag (ob:Option Nat) (W:ak) (t:aG):Prop:=∀ g,ob=aj g->∃ d,dz W g d t
theorem gQ {α:Type} {E:Ek α} {W:ak} {B:Nat} {v:aB} {l:List α} (h:Own E W B v l):Tag v.ownBlock W E.t:=by
 intro g hg;rcases eX h with⟨rfl,_⟩|⟨g',c',cur,rfl,_,h2,_⟩
 ·cases hg
 ·obtain rfl:g'=g:=by simpa [Value.ownBlock] using hg
  exact⟨cur,h2⟩
theorem Off.own {α:Type} {E:Ek α} {ob:Option Nat} {W x:ak} {B:Nat} {v:aB} {l:List α} {t:aG} (h:Off ob W x) (ho:Own E W B v l) (hg:Tag ob W t) (hne:(E.t == t)=false):Own E x B v l:=by
 refine⟨ho.1,?_⟩;rcases ho.2 with h2|⟨g',cap,cur,h1,h2,h3,h4⟩
 ·exact Or.inl h2
 ·refine Or.inr ⟨g',cap,cur,h1,h2,?_,h4⟩;rw [h.1 g' (lt_of_heap h3) fun e=>by
   obtain⟨d,hd⟩:=hg g' e.symm;exact iM (show dz W g' cur E.t from h3) hd hne rfl]
  exact h3
theorem Off.box {ob:Option Nat} {W x:ak} {b:Nat} {cs:Array aB} {s t:aG} (h:Off ob W x) (hb:dz W b cs s) (hg:Tag ob W t) (hne:(s == t)=false):dz x b cs s:=(h.1 b hb.lt fun e=>by
 obtain⟨d,hd⟩:=hg b e.symm;exact iM hb hd hne rfl).trans hb
theorem PM.off {w0 wr x:ak} {B:Nat} {v:aB} {p:List C5} {ob:Option Nat} {t:aG} (h:PM w0 B wr v p) (hb:Off ob wr x) (hg:Tag ob wr t) (hne:(56 == t)=false):PM w0 B x v p:=h.imp id fun h=>hb.own h hg hne
theorem vO.off {w0 wr x:ak} {B:Nat} {y:iN} {a:Ad} {ob:Option Nat} {t:aG} (h:vO w0 B wr y a) (hb:Off ob wr x) (hg:Tag ob wr t) (hne:(56 == t)=false):vO w0 B x y a:=⟨h.1,h.2.1,h.2.2.off hb hg hne⟩
theorem jZ.off {w0 wr x:ak} {B:Nat} {y:fE} {a:En} {ob:Option Nat} {t:aG} (h:jZ w0 B wr y a) (hb:Off ob wr x) (hg:Tag ob wr t) (hne:(56 == t)=false):jZ w0 B x y a:=⟨h.1,h.2.1,h.2.2.1,h.2.2.2.1,h.2.2.2.2.off hb hg hne⟩
theorem xD.off {w0 wr x:ak} {B:Nat} {y:qp} {a:Ow} {ob:Option Nat} {t:aG} (h:xD w0 B wr y a) (hb:Off ob wr x) (hg:Tag ob wr t) (hne:(56 == t)=false):xD w0 B x y a:=⟨h.1,h.2.off hb hg hne⟩
theorem Cp.Oa {w0 wr x:ak} {B:Nat} {b:Br} {nv av sv ev ov J7:Sl} {al:List Ad} (h:Cp w0 B wr b nv av sv ev ov) (hb:Off (dO av).ownBlock wr x) (hx:∃ l,mo x B (dO J7) l/\dV (vO w0 B x) l al):Cp w0 B x { b with fB:=al } nv J7 sv ev ov:=by
 obtain⟨l0,hl0,_⟩:=h.fB;have hg:=gQ hl0;exact {
  near:=hb.own h.near hg (by decide)
  seen:=hb.own h.seen hg (by decide)
  fB:=hx
  ent:=by obtain⟨l,h1,h2⟩:=h.ent; exact⟨l,hb.own h1 hg (by decide),h2.mono fun _ _ h=>h.off hb hg (by decide)⟩
  own:=by obtain⟨l,h1,h2⟩:=h.own; exact⟨l,hb.own h1 hg (by decide),h2.mono fun _ _ h=>h.off hb hg (by decide)⟩ }
theorem Cp.Fy {w0 wr x:ak} {B:Nat} {b:Br} {nv av sv ev ov ev':Sl} {el:List En} (h:Cp w0 B wr b nv av sv ev ov) (hb:Off (dO ev).ownBlock wr x) (hx:∃ l,gF x B (dO ev') l/\dV (jZ w0 B x) l el):Cp w0 B x { b with ent:=el } nv av sv ev' ov:=by
 obtain⟨l0,hl0,_⟩:=h.ent;have hg:=gQ hl0;exact {
  near:=hb.own h.near hg (by decide)
  seen:=hb.own h.seen hg (by decide)
  fB:=by obtain⟨l,h1,h2⟩:=h.fB; exact⟨l,hb.own h1 hg (by decide),h2.mono fun _ _ h=>h.off hb hg (by decide)⟩
  ent:=hx
  own:=by obtain⟨l,h1,h2⟩:=h.own; exact⟨l,hb.own h1 hg (by decide),h2.mono fun _ _ h=>h.off hb hg (by decide)⟩ }
theorem Cp.Ob {w0 wr x:ak} {B:Nat} {b:Br} {nv av sv ev ov J8:Sl} {sl:List dW} (h:Cp w0 B wr b nv av sv ev ov) (hb:Off (dO sv).ownBlock wr x) (hx:uf x B (dO J8) sl):Cp w0 B x { b with seen:=sl } nv av J8 ev ov:=by
 have hg:=gQ h.seen;exact {
  near:=hb.own h.near hg (by decide)
  seen:=hx
  fB:=by obtain⟨l,h1,h2⟩:=h.fB; exact⟨l,hb.own h1 hg (by decide),h2.mono fun _ _ h=>h.off hb hg (by decide)⟩
  ent:=by obtain⟨l,h1,h2⟩:=h.ent; exact⟨l,hb.own h1 hg (by decide),h2.mono fun _ _ h=>h.off hb hg (by decide)⟩
  own:=by obtain⟨l,h1,h2⟩:=h.own; exact⟨l,hb.own h1 hg (by decide),h2.mono fun _ _ h=>h.off hb hg (by decide)⟩ }
theorem pQ {α β:Type} {R:α->β->Prop} {l:List α} {m:List β} (h:dV R l m) (k:Nat) {a:α} {b:β} (hr:R a b):dV R (fF l k a) (fF m k b) :=
 ((h.take k).append (.cons hr .nil)).append (h.drop k)
theorem keys_eq {w0 wr:ak} {B:Nat}:∀ {l:List iN} {al:List Ad},dV (vO w0 B wr) l al->l.map jX=al.map Ad.id
 | _,_,.nil=>rfl
 | _,_,.cons h t=>by rw [aH,aH,keys_eq t]; exact congrArg (·::_) h.1
theorem rC {α:Type} (key:α->dW) (l:List α):kg key l↔kg (fun x:dW=>x) (l.map key):=by
 unfold kg;rw [List.pairwise_map]
def xP (B:Nat) (b1 _b2:Nat) (_me:Int) (_z1:aB) (o2:Option aI) (n2 c2:Nat) (_z3 _z4 _z5:aB) (y1 y2:Int) (yo:Option aI) (yn yc:Nat) (y4:Int) (p:List C5) (i:Nat) (v:aB) (x:ak):Prop :=
 match i with
 | 0=>v=U (aj ⟨b1,2,aA⟩)
 | 1=>v=V o2 n2 c2
 | 2=>v=.agg #[Z ah y1,Z ah y2,V yo yn yc,Z ah y4]
 | 3=>∃ s:Sl,v=jv (y1,y2,s,y4)/\kE x B (dO s) p
 | _=>True
noncomputable def GJ:Code:=((Try.f5.body.bind (dU 4)).getD .skip)
theorem BD (B:Nat) (b1 b2:Nat) (me:Int) (z1:aB) (o2:Option aI) (n2 c2:Nat) (z3 z4 z5:aB) (y1 y2:Int) (yo:Option aI) (yn yc:Nat) (y4:Int) (p:List C5) (i:Nat) (v:aB) (x x':ak) (h:xP B b1 b2 me z1 o2 n2 c2 z3 z4 z5 y1 y2 yo yn yc y4 p i v x) (hb:Below x.heap.size x x'):xP B b1 b2 me z1 o2 n2 c2 z3 z4 z5 y1 y2 yo yn yc y4 p i v x':=by
 by_cases hi:i<4
 ·rcases (by omega:i=0\/i=1\/i=2\/i=3) with rfl|rfl|rfl|rfl
  ·exact h
  ·exact h
  ·exact h
  ·obtain⟨s,h1,h2⟩:=h; exact⟨s,h1,Bk.dB h2 hb⟩
 ·unfold xP
  split <;> first | omega | trivial
theorem Oc (Q:Exit->Act->ak->Prop) (W:ak) (B0:Nat) (l:List iN) (b1 b2:Nat) (me:Int) (z1:aB) (o2:Option aI) (n2 c2:Nat) (z3 z4 z5:aB) (y1 y2:Int) (yo:Option aI) (yn yc:Nat) (y4:Int) (p:List C5) (u0 u1 u4 u5 u6 u7 u8 u9 u10 u11 u12 u13 u14 u15 u16 u17 u18 u19 u20 u21 u22 u23 u24 u25:aB)
  (h1:dz W b1 #[Z ah me,z1,V o2 n2 c2,z3,z4,z5] 31) (h2:dz W b2 #[Z ah y1,Z ah y2,V yo yn yc,Z ah y4] 37) (ho:mo W B0 (V o2 n2 c2) l) (hr:kg jX l) (hl:l.length<=900) (hB:B0<=W.heap.size) (hb0:b1<B0) (hp:ig W (V yo yn yc) p) (lp:p.length<=900)
  (hQ:∀ (w1:ak) (v13 v14 v15 v16 v17 v18:aB) (s1:Option aI) (s2 s3:Nat) (t1:Option aI) (t2 t3:Nat),dz w1 b1 #[Z ah me,z1,V o2 n2 c2,z3,z4,z5] 31->mo w1 B0 (V t1 t2 t3) (fF l (gV jX l (y1,y2)) (y1,y2,(s1,s2,s3),y4))->kE w1 W.heap.size (V s1 s2 s3) p->Off (dO (o2,n2,c2)).ownBlock W w1->Below B0 W w1->Q .normal ⟨(u0::u1::U (aj ⟨b1,0,aA⟩)::U (aj ⟨b2,0,aA⟩)::u4::u5::u6::u7::u8::u9::u10::u11::u12::v13::v14::v15::v16::v17::v18::u19::u20::u21::u22::u23::u24::u25::[]).toArray,[]⟩ (w1.setCell ⟨b1,2,aA⟩ (V t1 t2 t3))) :
  Code.wp Try.prog GJ Q ⟨(u0::u1::U (aj ⟨b1,0,aA⟩)::U (aj ⟨b2,0,aA⟩)::u4::u5::u6::u7::u8::u9::u10::u11::u12::u13::u14::u15::u16::u17::u18::u19::u20::u21::u22::u23::u24::u25::[]).toArray,[]⟩ W:=by
 have HQ:=J hQ;have H1:=J h1;have H2:=J h2;have HO:=J ho;have HR:=J hr;have HL:=J hl;have HB:=J hB;have H0:=J hb0;have HP:=J hp;have LP:=J lp;clear hQ h1 h2 ho hr hl hB hb0 hp lp;have jG:=BD W.heap.size b1 b2 me z1 o2 n2 c2 z3 z4 z5 y1 y2 yo yn yc y4 p;unfold GJ
 conv=>arg 2; whnf
 have nd:∀ j,(j<13\/17<=j)->∀ i,i<4->(fun i=>13+i) i≠j:=by
  intro j hj i hi h;simp only at h;omega
 refine Rg.gI 7 4 (fun i=>13+i) (fun _=>4) (xP W.heap.size b1 b2 me z1 o2 n2 c2 z3 z4 z5 y1 y2 yo yn yc y4 p) (by kernel_rfl) (by kernel_rfl) rfl (by decide) (fun i j _ _ h=>by have h2:13+i=13+j:=h; omega) (fun i hi=>by show 13+i<26; omega) ?_ (fun _=>Rg.jy 14 (by kernel_rfl)) ?_ ?_
 ·intro i o hi ho a x D hnd hc hD hb seen K hK;clear HQ;rcases (by omega:i=0\/i=1\/i=2\/i=3) with rfl|rfl|rfl|rfl
  ·cases ho;have e2:a.eval (.tmp 2)=U (aj ⟨b1,0,aA⟩):=seen.kp 2 _ (nd 2 (by omega)) rfl;exact Rg.dw rfl rfl (Rg.eO a.eval _ 31 (.tmp 2) 2 rfl (by rw [e2]; simp [go_sem])) (hK _ _ rfl (Below.refl _ _) fun _ _ _ _ _ _ _ h=>h)
  ·cases ho;have e13:a.eval (.tmp 13)=U (aj ⟨b1,2,aA⟩):=seen.at_ ⟨0,.data⟩ (by simp) rfl (Or.inr (by decide));have y2:=(H1.out.on hb).cell 2;simp only [au,aC,aD] at y2;exact Rg.dw rfl rfl (Rg.eu a.eval _ 26 (.tmp 13) rfl (by rw [e13]; simp [go_sem,y2])) (hK _ _ rfl (Below.refl _ _) fun _ _ _ _ _ _ _ h=>h)
  ·cases ho;have e3:a.eval (.tmp 3)=U (aj ⟨b2,0,aA⟩):=seen.kp 3 _ (nd 3 (by omega)) rfl;obtain⟨y0,y1,y2,y3⟩:=(H2.out.on hb).Ak;exact Rg.dw rfl rfl (Rg.eu a.eval _ 37 (.tmp 3) rfl (by rw [e3]; simp [go_sem,y0,y1,y2,y3])) (hK _ _ rfl (Below.refl _ _) fun _ _ _ _ _ _ _ h=>h)
  ·cases ho;have e15:a.eval (.tmp 15)=.agg #[Z ah y1,Z ah y2,V yo yn yc,Z ah y4]:=seen.at_ ⟨2,.data⟩ (by simp) rfl (Or.inr (by decide));exact Rg.eZ rfl rfl (Rw.gU a.eval _ (.tmp 15) 37 21 rfl e15 rfl _ (eG Try.func21 rfl rfl _ _)) (o8 (y1,y2,(yo,yn,yc),y4) p x (HP.out.on hb) LP.out) fun e w1 h=>by
    obtain⟨⟨s,rfl,h1⟩,h3⟩:=h;exact⟨_,rfl,hK _ _ ⟨s,rfl,dF h1 hb.size⟩ (h3.mono hb.size) fun j u hj _ _ _ hne h=>jG j u _ _ h h3⟩
 ·intro kk o h1 h2 ho;rcases (by omega:kk=5\/kk=6) with rfl|rfl
  ·cases ho;exact⟨⟨4,.phase⟩,by simp,rfl,rfl⟩
  ·cases ho;exact⟨⟨5,.data⟩,by simp,rfl,rfl⟩
 ·intro a w' df sz kp ⟨vs,hv⟩ hb;have sz':a.tmps.size=26:=sz;have g2:a.tmps[2]?=aj (U (aj ⟨b1,0,aA⟩)):=(kp 2 (nd 2 (by omega))).trans rfl;have g14:a.tmps[14]?=aj (V o2 n2 c2):=by
   have h:vs 1=V o2 n2 c2:=(hv 1 (by omega)).2 (by decide);rw [<- h];exact (hv 1 (by omega)).1
  obtain⟨⟨s1,s2,s3⟩,hs,hc⟩:=(hv 3 (by omega)).2 (by decide);have g16:a.tmps[16]?=aj (jv (y1,y2,(s1,s2,s3),y4)):=((hv 3 (by omega)).1).trans (congrArg aj hs);have B1:=H1.out.on hb;show Rg.fJ _ _ _ 3 4 a w';simp only [Rg.fJ];refine Rg.eZ rfl rfl (yT a.eval _ (.tmp 14) (.tmp 16) (.func 22) 26 37 61 20 rfl (Rg.dD g14) (Rg.dD g16) rfl rfl _ (eG Try.func20 rfl rfl _ _)) (Bz B0 (o2,n2,c2) l (y1,y2,(s1,s2,s3),y4) w' (Bk.dB HO.out hb) HR.out HL.out (O HB.out hb.size)) fun e w1 h=>?_;obtain⟨⟨⟨t1,t2,t3⟩,rfl,hown⟩,hbel,hoth⟩:=h;refine⟨_,rfl,?_⟩;have Od:(a.put (aj 17) (V t1 t2 t3)).tmps[17]?=aj (V t1 t2 t3):=by simp [Act.put,sz']
  show Go.wpOp _ _ _ 5 _ (a.put (aj 17) (V t1 t2 t3)) _;refine Rg.dw rfl rfl (Rg.eO _ _ 31 (.tmp 2) 2 rfl (v:=U (aj ⟨b1,2,aA⟩)) (by rw [Rg.dD ((Rg.get_put _ 17 _ 2 (by decide)).trans g2)]; simp [go_sem])) ?_;have Oe:((a.put (aj 17) (V t1 t2 t3)).put (aj 18) (U (aj ⟨b1,2,aA⟩))).tmps[18]?=aj (U (aj ⟨b1,2,aA⟩)):=by simp [Act.put,sz']
  show Go.wpOp _ _ _ 6 _ ((a.put (aj 17) (V t1 t2 t3)).put (aj 18) (U (aj ⟨b1,2,aA⟩))) _;have B2:dz w1 b1 _ _:=(hbel.block b1 H0.out).trans B1;have cx:=B2.cell 2;have fx:=B2.fr 2;simp only [au,aC,aD] at cx;refine Rg.fI 26 (.tmp 18) (.tmp 17) rfl rfl rfl rfl (Rg.dD Oe) (Rg.dD ((Rg.get_put _ 18 _ 17 (by decide)).trans Od)) (w':=w1.setCell ⟨b1,2,aA⟩ (V t1 t2 t3)) (by simp [go_sem,cx,fx]) ?_;have Ro:Off (dO (o2,n2,c2)).ownBlock w' w1:=⟨hoth,hbel.size⟩;have Rp:Off (dO (o2,n2,c2)).ownBlock W w1:=⟨fun j hj hne=>(hoth j (L hj hb.size) hne).trans (hb.block j hj),O hb.size hbel.size⟩;have oz:∀ j,(j<13\/19<=j)->((a.put (aj 17) (V t1 t2 t3)).put (aj 18) (U (aj ⟨b1,2,aA⟩))).tmps[j]?=(u0::u1::U (aj ⟨b1,0,aA⟩)::U (aj ⟨b2,0,aA⟩)::u4::u5::u6::u7::u8::u9::u10::u11::u12::u13::u14::u15::u16::u17::u18::u19::u20::u21::u22::u23::u24::u25::[])[j]?:=fun j hj=>(Rg.get_put _ 18 _ j (by omega)).trans ((Rg.get_put _ 17 _ j (by omega)).trans ((kp j (nd j (by omega))).trans au));obtain⟨mid,hmid,hfr⟩:=Rg.fO (a:=(a.put (aj 17) (V t1 t2 t3)).put (aj 18) (U (aj ⟨b1,2,aA⟩))) 13 6 df (by simp [Rg.size_put,sz']) (by simp) oz;show Q .normal ((a.put (aj 17) (V t1 t2 t3)).put (aj 18) (U (aj ⟨b1,2,aA⟩))) _;rw [hfr]
  match mid,hmid with
  | [v13,v14,v15,v16,v17,v18],_ =>
   exact HQ.out w1 _ _ _ _ _ _ s1 s2 s3 t1 t2 t3 B2 hown (Ro.own hc (gQ (Bk.dB HO.out hb)) (by decide)) Rp ((hb.mono HB.out).trans hbel)
end Go.Proofs.Ytmklifheakemeaa.Av
