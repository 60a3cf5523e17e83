/-
  covered and tight of. Conditions as told.
-/
import Derived.Test.YtkcfgbddlpomgaaGreatDQ039
import Derived.Test.YtkcfgbddlpomgaaGreatDQ034
set_option maxRecDepth 100000
set_option maxHeartbeats 64000000
open _root_.Bool renaming false->aj,true->aS
open _root_.Go renaming World->aA,bodyPost_ret->aF,Value->aO,Calls->aP
open Go.Ending renaming returned->aJ
open Go.IntKind renaming i64->L
open Go.Lib renaming hid->J
open Go.Obj renaming cells->ak
open Go.Proofs.Tryz renaming results22->aB,prog->aC
open Go.RowKit.Below renaming refl->aG
open Go.Value renaming slice->D,int->K,bool->Z,agg->aT
open _root_.List renaming getElem?_cons_zero->O,getElem?_cons_succ->Q,getElem?_toArray->U,getElem?_eq_getElem->ay,mem_of_getElem?->aD,getElem?_eq_some_iff->aH,getElem?_map->aL,append_assoc->aM
open _root_.Nat renaming le_trans->au,le_refl->aI,lt_or_ge->aQ,zero_le->aR
open _root_.Option renaming none->ah,some->aN
open Option.some renaming inj->aK
namespace Go.Proofs.YtkcfgbddlpomgaaGreat.Sb
open Go.RowKit Go.Sort Rw YtkcfgbddlpomgaaGreat.Nm Pr Bk Av Rl
theorem UD (qZ bv:aO) (p q:List C5) (w:aA) (ha:fK w qZ p) (hb:fK w bv q) (hp:dW p) (hq:dW q) :
  aP aC 107 #[qZ,bv] w fun e w'=>e=aJ (Z (mF p q))/\Below w.heap.size w w':=by
 obtain⟨a,na,rfl⟩:=hp;obtain⟨b,nb,rfl⟩:=hq;unfold mF;rw [qE,qE];exact JZ qZ bv a b w ha hb na nb
theorem abM {α:Type} (f:α->Bool) {l:List α} (h:∀ (j:Nat) (y:α),j<l.length->l[j]?=aN y->f y=aj):l.any f=aj:=by
 rw [List.any_eq_false];intro e he;obtain⟨j,hj,hje⟩:=List.getElem_of_mem he;simpa using h j e hj (by rw [ay hj,hje])
theorem abN {α:Type} (f:α->Bool) {l:List α} {k:Nat} {y:α} (h:l[k]?=aN y) (hf:f y=aS):l.any f=aS:=by
 rw [List.any_eq_true];exact⟨y,aD h,hf⟩
abbrev cE (p:List C5) (e:En):Bool:=e.up && mF e.p p
theorem I4 (v:Sl) (pv:aO) (l:List iA) (m:List En) (p':List C5) (w:aA) (hs:jZ w (dR v) l) (hu:eB (iW w) l m) (hp:fK w pv p') (hok:∀ e∈m,dW e.p) (hop:dW p') :
  aP aC 83 #[dR v,pv] w fun e w'=>e=aJ (Z (Td m p'))/\Below w.heap.size w w':=by
 have HU:=J hu;have HP:=J hp;have OK:=J hok;have OP:=J hop;obtain⟨pa,pc,rfl⟩:=hp.len;generalize p'.length=pn at *;obtain⟨so,n,sc⟩:=v;have hn:=rY hs;have HS:=J hs;have lm:=hs.most;unfold maxLen at lm;rw [hn] at lm;have HN:=J hn;clear hu hp hok hop hs hn;go_enter Tryz.func83,Tryz.ntmps83;go_wp2
 go_loopw [9] (fun i wr=>∃ k:Nat,k<=n/\i=K L k/\Below w.heap.size w wr/\∀ (j:Nat) (y:En),j<k->m[j]?=aN y->cE p' y=aj) (fun i _=>n-(intOf i).toNat)
 case atStart=>exact⟨0,aR _,rfl,aG _ _,fun j y h=>by omega⟩
 case round =>
  obtain⟨k,hk,rfl,hbe,hall⟩:=hrel;have BE:=J hbe;have AL:=J hall;clear hbe hall;by_cases hlt:k<n
  ·obtain⟨y,hy⟩:∃ y,l[k]?=aN y:=⟨_,ay (by rw [HN.out]; exact hlt)⟩;obtain⟨q,ix,px⟩:=P7 HS.out rfl HN.out hy;obtain⟨p0,p1,p2,p3,p4,p5,p6⟩:=px wr BE.out;obtain⟨e,he,_,hin⟩:=kI HU.out hy;obtain⟨y1,y2,y3,y4,⟨yo,yn,yc⟩,y6,y7⟩:=y;simp only at p0 p1 p2 p3 p4 p5 p6;have NB:=J (fE wr (ak #[K L y1,K L y2,K L y3,K L y4,D yo yn yc,K L y6,Z y7] 68));have hw3:IntKind.i64.wrap ((k:Int)+1)=(k:Int)+1:=IntWalk.i64_in _ (by omega);obtain⟨t,ht⟩:∃ r,mF e.p p'=r:=⟨_,rfl⟩;have HV:=J (show cE p' e=(y7 && t) by unfold cE; rw [<- hin.2.2.2.1,ht]);have HE:=J he;have BF:=J (BE.out.trans (NB.out.mono BE.out.size));have CV:=J (UD (D yo yn yc) (D pa pn pc) e.p p' _ (hin.2.2.2.2.on BF.out) (HP.out.on BF.out) (OK.out _ (aD he)) OP.out);rw [ht] at CV;clear px hy ht he hin;cases y7
   ·clear CV;go_wp2
    go_roundw
    case rel=>exact⟨k+1,by omega,by go_num,BF.out,fun j y' hj h1=>by
     rcases aQ j k with h3|h3
     ·exact AL.out j y' h3 h1
     ·obtain rfl:j=k:=by omega
      have e1:=HE.out;rw [h1] at e1;rw [aK e1];exact HV.out.trans (by simp)⟩
    case measure=>simp [intOf]; omega
   ·go_wp2_with fail;refine CV.out.mono ?_;rintro e3 w3 ⟨rfl,hb⟩;have BG:=J (BF.out.trans (hb.mono BF.out.size));clear CV hb p0 p1 p2 p3 p4 p5 p6 ix;cases t
    ·go_wp2
     go_roundw
     case rel=>exact⟨k+1,by omega,by go_num,BG.out,fun j y' hj h1=>by
      rcases aQ j k with h3|h3
      ·exact AL.out j y' h3 h1
      ·obtain rfl:j=k:=by omega
       have e1:=HE.out;rw [h1] at e1;rw [aK e1];exact HV.out.trans (by simp)⟩
     case measure=>simp [intOf]; omega
    ·have hd:Td m p'=aS:=abN (cE p') HE.out (HV.out.trans (by simp));go_wp2;go_ret;exact⟨by rw [hd]; rfl,BG.out⟩
  ·obtain rfl:k=n:=by omega
   have hd:Td m p'=aj:=abM (cE p') fun j y hj h=>AL.out j y (by rw [<- HN.out,HU.out.len]; exact hj) h;go_wp2;go_ret;exact⟨by rw [hd]; rfl,BE.out⟩
theorem UF {W:aA} {v:Sl} {l:List iA} {m:List En} (hv:jZ W (dR v) l) (hA:eB (iW W) l m) (t:eO):jZ W (dR (cutV v (jE m t) (qY m t).length)) ((l.drop (jE m t)).take (qY m t).length)/\eB (iW W) ((l.drop (jE m t)).take (qY m t).length) (qY m t):=by
 refine⟨(Mx hv _ _ (by rw [hA.len]; exact wX m t)).2,?_⟩;have h:=(hA.drop (jE m t)).take (qY m t).length;have e:(m.drop (jE m t)).take (qY m t).length=qY m t:=by
  unfold qY
  conv=>lhs; arg 2; rw [<- List.takeWhile_append_dropWhile (p:=fun e:En=>decide (e.tree=t)) (l:=m.drop (jE m t))]
  rw [List.take_left]
 rw [e] at h;exact h
theorem UH (m:List En) (t:eO):∀ e∈qY m t,e∈m:=fun _ he=>List.mem_of_mem_drop ((List.takeWhile_sublist _).subset he)
theorem UJ (me:Int) (nv av sv ov:aO) (ev:Sl) (l:List iA) (m:List En) (t:eO) (pv:aO) (p':List C5) (w:aA) (hs:jZ w (dR ev) l) (hu:eB (iW w) l m) (hr:kG m) (hl:l.length<=1000) (hp:fK w pv p') (hok:∀ e∈m,dW e.p) (hop:dW p') :
  aP aC 49 #[aT #[K L me,nv,av,sv,dR ev,ov],mD t,pv] w fun e w'=>e=aJ (Z (eX m t p'))/\Below w.heap.size w w':=by
 obtain⟨pa,pc,rfl⟩:=hp.len;obtain⟨so,n,sc⟩:=ev;obtain⟨c,d⟩:=t;obtain⟨h0,X,Y⟩:=gK w #[K L me,nv,av,sv,D so n sc,ov] #[K L c,K L d] 33 38;have B:=J h0;have x4:=X.cell 4;obtain⟨y0,y1⟩:=Y.cs2;simp only [U,O,Q] at x4;have BR:=J (Ag (so,n,sc) l m (c,d) _ (hs.on h0) (hu.mono fun _ _ q=>q.on h0) hr hl);obtain⟨q1,q2⟩:=UF (hs.on h0) (hu.mono fun _ _ q=>q.on h0) (c,d);have Q1:=J q1;have Q2:=J q2;have HP:=J (hp.on h0);have OK:=J (fun e he=>hok e (UH m (c,d) e he));have CB:=J (abx hr (c,d) p');generalize p'.length=pn at *;generalize eX m (c,d) p'=r at *;generalize cutV (so,n,sc) (jE m (c,d)) (qY m (c,d)).length=z at *;obtain⟨z1,z2,z3⟩:=z;clear h0 X Y hs hu hr hl hp hok q1 q2;go_enter Tryz.func49,Tryz.ntmps49;go_wp2_with fail;generalize (w.alloc (ak #[K L me,nv,av,sv,D so n sc,ov] 33)).alloc (ak #[K L c,K L d] 38)=W at *;refine BR.out.mono ?_;rintro e1 w1 ⟨rfl,hb⟩;have HB:=J hb;have CV:=J (I4 (z1,z2,z3) (D pa pn pc) _ (qY m (c,d)) p' w1 (Q1.out.on hb) (Q2.out.mono fun _ _ q=>q.on hb) (HP.out.on hb) OK.out hop);clear x4 y0 y1 hb BR;go_wp2_with fail;refine CV.out.mono ?_;rintro e2 w2 ⟨rfl,hb2⟩;go_wp2;go_ret;exact⟨by rw [<- CB.out]; rfl,B.out.trans ((HB.out.trans (hb2.mono HB.out.size)).mono B.out.size)⟩
theorem wY {w w':aA} {row:Option Nat} (h:w.grownBy w' row):Off row w w':=⟨h.block,h.size⟩
theorem abO {wr w0:aA} {B:Nat} {v:aO} {lu:List iA} {mu:List En} (x:iA) (e:En) (o:jg wr B v lu) (hA:eB (Az w0 B wr) lu mu) (hx:Az w0 B wr x e) (hn:lu.length<=1000) (hB:B<=wr.heap.size) :
  ∃ v' w',(Builtin.append_ #[30,30] 30 #[v,D (aN ⟨wr.heap.size,0,ah⟩) 1 1]).run aC (wr.alloc (ak (iG x).toArray 68))=.ok v' w'/\jg w' B v' (lu++[x])/\eB (Az w0 B w') (lu++[x]) (mu++[e]) /\
   (∀ B' W,B'<=B->Below B' W wr->Below B' W w')/\Off v.ownBlock (wr.alloc (ak (iG x).toArray 68)) w':=by
 have NB:=fE wr (ak (iG x).toArray 68);have hlit:=gT mY wr [x] 1 rfl (by simp) (iG x).toArray rfl;have o2:jg _ B v lu:=Bk.dB o NB;have hB2:B<=(wr.alloc (ak (iG x).toArray 68)).heap.size:=au hB NB.size;obtain⟨v',w',r',o',gr⟩:=fT mY B o2 (Row.dx hlit) hn (by simp) hB2 30;refine⟨v',w',by simpa [EN] using r',o',?_,fun B' W hB' hb=>?_,wY gr⟩
 ·have hf:=wY gr;have hg:=kL o2;have g:∀ y z,Az w0 B wr y z->Az w0 B w' y z:=fun y z q=>(q.grow NB).off hf hg (by decide);exact (hA.mono g).append (.cons (g _ _ hx) .nil)
 ·exact (hb.trans (NB.mono (by have:=hb.size; omega))).grown gr (au hB' hB2) fun j hj=>au hB' (o2.lt j hj).1
theorem abP {w0 wr:aA} {B:Nat} {x:iA} {e:En} (h:Az w0 B wr x e) (hl:Below w0.heap.size w0 wr):iW wr x e:=⟨h.1,h.2.1,h.2.2.1,h.2.2.2.1,h.2.2.2.2.row hl⟩
theorem JO (me:Int) (nv av sv ov:aO) (ev:Sl) (l:List iA) (m:List En) (t:eO) (w:aA) (hs:jZ w (dR ev) l) (hu:eB (iW w) l m) (hr:kG m) (hl:l.length<=900) (hf:∀ e∈m,e.p.length<=900) :
  aP aC 20 #[aT #[K L me,nv,av,sv,dR ev,ov],mD t] w fun e w'=>(∃ (v':Sl) (lu:List iA),e=aJ (dR v')/\jZ w' (dR v') lu/\eB (iW w') lu (qY m t))/\Below w.heap.size w w':=by
 obtain⟨so,n,sc⟩:=ev;obtain⟨c,d⟩:=t;obtain⟨h0,X,Y⟩:=gK w #[K L me,nv,av,sv,D so n sc,ov] #[K L c,K L d] 33 38;have B:=J h0;have x4:=X.cell 4;obtain⟨y0,y1⟩:=Y.cs2;simp only [U,O,Q] at x4;have BR:=J (Ag (so,n,sc) l m (c,d) _ (hs.on h0) (hu.mono fun _ _ q=>q.on h0) hr (by omega));obtain⟨q1,q2⟩:=UF (hs.on h0) (hu.mono fun _ _ q=>q.on h0) (c,d);have hbl:(qY m (c,d)).length<=900:=by have:=wX m (c,d); have:=hu.len; omega
 have HF:=J (fun e he=>hf e (UH m (c,d) e he));generalize (l.drop (jE m (c,d))).take (qY m (c,d)).length=lb at *;generalize cutV (so,n,sc) (jE m (c,d)) (qY m (c,d)).length=z at *;obtain⟨z1,z2,z3⟩:=z;generalize qY m (c,d)=mb at *;have hn:lb.length=z2:=rY q1;have HN:=J hn;have hz:z2<=900:=by have:=q2.len; omega
 have Q1:=J q1;have Q2:=J q2;clear h0 X Y hs hu hr hl hf q1 q2 hn hbl;go_enter Tryz.func20,Tryz.ntmps20;go_wp2_with fail;generalize (w.alloc (ak #[K L me,nv,av,sv,D so n sc,ov] 33)).alloc (ak #[K L c,K L d] 38)=W at *;refine BR.out.mono ?_;rintro e1 w1 ⟨rfl,hb⟩;have HB:=J hb;have R1:=J (Q1.out.on hb);have R2:=J (Q2.out.mono fun _ _ q=>q.on hb);clear x4 y0 y1 BR hb Q1 Q2;go_wp2
 go_loopw [5,13] (fun v i wr=>∃ (k:Nat) (lu:List iA),k<=z2/\i=K L k/\Below w1.heap.size w1 wr/\jg wr w1.heap.size v lu/\eB (Az w1 w1.heap.size wr) lu (mb.take k)) (fun _ i _=>z2-(intOf i).toNat)
 case atStart=>exact⟨0,[],aR _,rfl,aG _ _,fZ _ _,by simpa using eB.nil⟩
 case round =>
  obtain⟨k,lu,hk,rfl,hbe,hown,hall⟩:=hrel;have BE:=J hbe;have OE:=J hown;have AE:=J hall;clear hbe hown hall;by_cases hlt:k<z2
  ·obtain⟨y,hy⟩:∃ y,lb[k]?=aN y:=⟨_,ay (by rw [HN.out]; exact hlt)⟩;obtain⟨q,ix,px⟩:=P7 R1.out rfl HN.out hy;obtain⟨p0,p1,p2,p3,p4,p5,p6⟩:=px wr BE.out;obtain⟨e,he,_,hin⟩:=kI R2.out hy;obtain⟨y1,y2,y3,y4,⟨yo,yn,yc⟩,y6,y7⟩:=y;simp only at p0 p1 p2 p3 p4 p5 p6;have NB:=J (fE wr (ak #[K L y1,K L y2,K L y3,K L y4,D yo yn yc,K L y6,Z y7] 68));have BF:=J (BE.out.trans (NB.out.mono BE.out.size));have hx:=dL wr #[K L y1,K L y2,K L y3,K L y4,D yo yn yc,K L y6,Z y7] 68;obtain⟨v0,v1,v2,v3,v4,v5,v6⟩:=hx.mU;have hw3:IntKind.i64.wrap ((k:Int)+1)=(k:Int)+1:=IntWalk.i64_in _ (by omega);have CP:=J (EK (y1,y2,y3,y4,(yo,yn,yc),y6,y7) e.p _ (hin.2.2.2.2.on BF.out) (HF.out e (aD he)));have HI:=J hin;have HE:=J he;clear px hy he hin hx;go_wp2_with fail;refine CP.out.mono ?_;rintro e3 w3 ⟨⟨⟨u1,u2,u3⟩,rfl,ho⟩,hb⟩;have BG:=BF.out.trans (hb.mono BF.out.size);have hl:lu.length=k:=by rw [AE.out.len,List.length_take]; have:=HN.out; have:=R2.out.len; omega
   obtain⟨v',w',r',o',a',bl,_⟩:=abO (w0:=w1) (y1,y2,y3,y4,(u1,u2,u3),y6,y7) e (Bk.dB (Bk.dB OE.out NB.out) hb) (AE.out.mono fun _ _ q=>(q.grow NB.out).grow hb) ⟨HI.out.1,HI.out.2.1,HI.out.2.2.1,HI.out.2.2.2.1,Or.inr (dG ho BF.out.size)⟩ (by omega) (by have:=BG.size; omega);have O2:=J o';have A2:=J a';have B2:=J (bl _ w1 (aI _) BG);have E2:=J (show mb.take (k+1)=mb.take k++[e] from List.take_succ_eq_append_getElem (aH.1 HE.out).1 ▸ by rw [(aH.1 HE.out).2]);clear CP hb ho BG hl o' a' bl v0 v1 v2 v3 v4 v5 v6 p0 p1 p2 p3 p4 p5 p6 ix NB BF;go_wp2_with (first | (at_builtin; refine wpList_append_run rfl _ _ 30 rfl rfl rfl r' ?_) | fail)
   go_roundw
   case rel=>exact⟨k+1,_,by omega,by go_num,B2.out,O2.out,by rw [E2.out]; exact A2.out⟩
   case measure=>simp [intOf]; omega
  ·obtain rfl:z2=k:=by omega
   have e:mb.take z2=mb:=List.take_of_length_le (by have:=HN.out; have:=R2.out.len; omega);rw [e] at AE;obtain⟨Aw,Ay,hv⟩:=(Row.dx OE.out).len;subst hv;clear e;go_wp2;go_ret;exact⟨⟨(Aw,_,Ay),lu,rfl,Row.dx OE.out,AE.out.mono fun _ _ q=>abP q BE.out⟩,B.out.trans ((HB.out.trans (BE.out.mono HB.out.size)).mono B.out.size)⟩
theorem mo {p:List C5} (h:dW p):p.length<=900:=by
 obtain⟨a,na,rfl⟩:=h;rw [List.length_map];have:=na.five;omega
theorem But.off {g:Nat} {ob:Option Nat} {w W x:aA} (h:But g w W) (ho:Off ob W x) (hb:∀ b,ob=aN b->w.heap.size<=b):But g w x :=
 ⟨fun j hj hne=>(ho.1 j (Nat.lt_of_lt_of_le hj h.2) fun e=>by have:=hb j e.symm; omega).trans (h.1 j hj hne),au h.2 ho.2⟩
theorem MJ {α:Type} {E:Ek α} {W:aA} {B:Nat} {v:aO} {l:List α} (h:Own E W B v l):∀ b,v.ownBlock=aN b->B<=b:=by
 intro b hb;rcases iT h with⟨rfl,_⟩|⟨g',cap',cur,rfl,h2,_⟩
 ·cases hb
 ·obtain rfl:g'=b:=by simpa [Value.ownBlock] using hb
  exact h2
theorem PM.less {w0 wr:aA} {B B':Nat} {v:aO} {p:List C5} (h:PM w0 B wr v p) (hB:B'<=B):PM w0 B' wr v p:=h.imp id fun h=>dG h hB
theorem Cp.less {w0 wr:aA} {B B':Nat} {b:Br} {nv av sv ev ov:Sl} (h:Cp w0 B wr b nv av sv ev ov) (hB:B'<=B):Cp w0 B' wr b nv av sv ev ov where
 near:=dG h.near hB
 seen:=dG h.seen hB
 dO:=by obtain⟨l,h1,h2⟩:=h.dO; exact⟨l,dG h1 hB,h2.mono fun _ _ q=>⟨q.1,q.2.1,PM.less q.2.2 hB⟩⟩
 ent:=by obtain⟨l,h1,h2⟩:=h.ent; exact⟨l,dG h1 hB,h2.mono fun _ _ q=>⟨q.1,q.2.1,q.2.2.1,q.2.2.2.1,PM.less q.2.2.2.2 hB⟩⟩
 own:=by obtain⟨l,h1,h2⟩:=h.own; exact⟨l,dG h1 hB,h2.mono fun _ _ q=>⟨q.1,PM.less q.2 hB⟩⟩
def Kl (b:Br) (e:En):Br×Bool:=match fV b.dO e.tree with
 | none=>(b,aj)
 | some a=>if qL b.ent e.tree e.sub=aS then (b,aj) else if e.from_=a.par/\a.par≠-1 then (b,aj) else
  ({ b with ent:=fP b.ent (eP (b.ent.map fB) (e.tree,e.sub)) { e with up:=!(a.par == -1) && !eX b.ent e.tree e.p } },!(a.par == -1) && !eX b.ent e.tree e.p)
theorem vM {b:Br} (hr:kG b.ent) {e:En}:Kl b e=gQ b e:=by
 unfold Kl gQ;have ft:=J2 hr e.tree e.sub;have ek:fB e=(e.tree,e.sub):=rfl;rw [ek,ft];by_cases h:fG (b.dO.map Ad.id) e.tree=-1
 ·have hn:fV b.dO e.tree=ah:=uo fun j a hj=>Dl (key:=Ad.id) h j a hj;rw [hn];cases b.dO[(fG (b.dO.map Ad.id) e.tree).toNat]? with
  | none=>rfl
  | some a=>simp only; rw [if_pos h]
 ·obtain⟨k,hk⟩:∃ k:Nat,fG (b.dO.map Ad.id) e.tree=k:=⟨(fG (b.dO.map Ad.id) e.tree).toNat,by have:=pq (b.dO.map Ad.id) e.tree; omega⟩;obtain⟨g1,g2⟩:=wN hk;rw [aL] at g1;cases ha:b.dO[k]? with
  | none=>rw [ha] at g1; cases g1
  | some a =>
   rw [ha] at g1;have hx:a.id=e.tree:=aK g1;have hf:fV b.dO e.tree=aN a:=rM ha hx fun j z hj hz=>g2 j z.id hj (by rw [aL,hz]; rfl);rw [hf,hk,Int.toNat_natCast,ha];simp only;rw [if_neg (show ¬ ((k:Int)=-1) by omega)];have e1:(!(a.par == -1))=decide (a.par≠-1):=by by_cases hp:a.par=-1 <;> simp [hp]
   rw [e1];by_cases ht:qL b.ent e.tree e.sub=aS
   ·rw [if_pos ht,if_pos ht,if_pos (by omega)]
   ·rw [if_neg ht,if_neg ht,if_neg (show ¬ ((-1:Int)≠-1) by simp)];by_cases hp:e.from_=a.par/\a.par≠-1
    ·rw [if_pos hp,if_pos ⟨by rw [hp.1]; exact hp.2,hp.1⟩]
    ·rw [if_neg hp,if_neg fun q=>hp ⟨q.2,by rw [<- q.2]; exact q.1⟩]
def Fq (W:aA) (P R:Prop) (m:List En) (r:Br×Bool) (e:Ending) (w':aA):Prop:=(∃ nv av sv ev ov:Sl,e=aJ (.tuple #[ny r.1.me nv av sv ev ov,Z r.2])/\gZ w' r.1 nv av sv ev ov/\(P->kM w' nv r.1.near)/\(R\/r.2=aS->YG w' r.1 nv av sv ev ov)/\(r.1.ent=m\/∃ (V:aA) (B:Nat),W.heap.size<=B/\Cp (vw V) B w' r.1 nv av sv ev ov))/\Below W.heap.size W w'
theorem Fq.two {W:aA} {P R:Prop} {m:List En} {r:Br×Bool} {e:Ending} {w':aA} (h:Fq W P R m r e w'):uZ W P R r e w':=by
 obtain⟨⟨a1,a2,a3,a4,a5,h1,h2,h3,h4,_⟩,h5⟩:=h;exact⟨⟨a1,a2,a3,a4,a5,h1,h2,h3,h4⟩,h5⟩
theorem PY (b:Br) (e:En) (nv av sv ev ov:Sl) (x:iA) (w:aA) (h:gZ w b nv av sv ev ov) (he:iW w x e) (hf:Np b) (hp:xQ b) (hr:kG b.ent) (hok:∀ e∈b.ent,dW e.p) (hoe:dW e.p) :
  aP aC 22 #[ny b.me nv av sv ev ov,qR x] w (Fq w (kM w nv b.near) (YG w b nv av sv ev ov) b.ent (gQ b e)):=by
 obtain⟨no,nn,nc⟩:=nv;obtain⟨ao,an,ac⟩:=av;obtain⟨so,sn,sc⟩:=sv;obtain⟨eo,en,ec⟩:=ev;obtain⟨oo,dU,oc⟩:=ov;obtain⟨y1,y2,y3,y4,⟨yo,yn,yc⟩,y6,y7⟩:=x;obtain⟨h0,h1,h2,h3⟩:=gN w #[K L b.me,D no nn nc,D ao an ac,D so sn sc,D eo en ec,D oo dU oc] #[K L y1,K L y2,K L y3,K L y4,D yo yn yc,K L y6,Z y7] #[K L 0,D ah 0 0,D ah 0 0,D ah 0 0,D ah 0 0,D ah 0 0] 33 68 33;have BB:=J h0;have X1:=J h1;have X2:=J h2;have X3:=J h3;have HH:=J h;have EE:=J he;have HF:=J hf;have HP:=J hp;have HR:=J hr;have OK:=J hok;have OE:=J hoe;obtain⟨la,ha1,ha2⟩:=h.dO;have SW:=J (zk b.me (D no nn nc) (D so sn sc) (D eo en ec) (D oo dU oc) (ao,an,ac) la b.dO (y1,y2) _ (ha1.on BB.out) (ha2.mono fun _ _ q=>q.on BB.out) hp.dO);have ET:=J (show e.tree=(y1,y2) from he.1.symm);have ES:=J (show e.sub=(y3,y4) from he.2.1.symm);have EF:=J (show e.from_=y6 from he.2.2.1.symm);obtain⟨x0,x1,x2,x3,x4,x5⟩:=X1.out.fA;obtain⟨d0,d1,d2,d3,d4,d5,d6⟩:=X2.out.mU;clear h0 h1 h2 h3 h he hf hp hr hok hoe ha1 ha2 la;go_enter Tryz.func22,Tryz.ntmps22;go_wp2_with fail;generalize ((w.alloc (ak #[K L b.me,D no nn nc,D ao an ac,D so sn sc,D eo en ec,D oo dU oc] 33)).alloc (ak #[K L y1,K L y2,K L y3,K L y4,D yo yn yc,K L y6,Z y7] 68)).alloc (ak #[K L 0,D ah 0 0,D ah 0 0,D ah 0 0,D ah 0 0,D ah 0 0] 33)=W at *;refine SW.out.mono ?_;rintro e1 w1 ⟨hq,hb⟩;have B1:=J (BB.out.trans (hb.mono BB.out.size));have Z1:=J (X1.out.on hb);have Z2:=J (X2.out.on hb);have Z3:=J (X3.out.on hb);clear hb SW X1 X2 X3;clear x0 x1 x2 x3 x4 x5;clear d0 d1 d2 d3 d4 d5 d6;obtain⟨⟨r1,r2,⟨ro,rn,rc⟩,r4⟩,kn,rfl,hin⟩:∃ (r:jD) (kn:Bool),e1=aJ (.tuple #[lV r,Z kn])/\((kn=aj/\fV b.dO (y1,y2)=ah)\/(kn=aS/\∃ a,fV b.dO (y1,y2)=aN a/\r.2.2.2=a.par)):=by
  cases hfa:fV b.dO (y1,y2) with
  | none =>
   rw [hfa] at hq;exact⟨_,aj,hq,Or.inl ⟨rfl,rfl⟩⟩
  | some a =>
   rw [hfa] at hq;obtain⟨r,h1,h2⟩:=hq;exact⟨r,aS,h1,Or.inr ⟨rfl,a,rfl,h2.2.1⟩⟩
 have HI:=J hin;have nb:=fE w1 (ak #[K L r1,K L r2,D ro rn rc,K L r4] 53);have AB:=J (dL w1 #[K L r1,K L r2,D ro rn rc,K L r4] 53);have B2:=J (B1.out.trans (nb.mono B1.out.size));have Y1:=J (Z1.out.on nb);have Y2:=J (Z2.out.on nb);have Y3:=J (Z3.out.on nb);obtain⟨les,hs1,hs2⟩:=HH.out.ent;have PL:=J (Pq (eo,en,ec) les b.ent (y1,y2) (y3,y4) _ (hs1.on B2.out) (hs2.mono fun _ _ q=>q.on B2.out) HR.out (by rw [hs2.len]; have:=HF.out.ent; omega));have agK:=J hs1;have ael:=J hs2;obtain⟨k,hk⟩:∃ k,eP (b.ent.map fB) ((y1,y2),(y3,y4))=k:=⟨_,rfl⟩;obtain⟨th,hth⟩:∃ k,qL b.ent (y1,y2) (y3,y4)=k:=⟨_,rfl⟩;rw [hk,hth] at PL;have HK:=J hk;have TH:=J hth;have KL:=J (show k<=b.ent.length by rw [<- hk]; simpa using kZ (b.ent.map fB) ((y1,y2),(y3,y4)));have x4:=Y1.out.cell 4;simp only [U,O,Q] at x4;have d1:=Y2.out.cell 1;have d0:=Y2.out.cell 0;have d2:=Y2.out.cell 2;have d3:=Y2.out.cell 3;simp only [U,O,Q] at d0 d1 d2 d3;clear hin hq nb hs1 hs2 hk hth Z1 Z2 Z3;go_wp2_with fail;generalize hw2:w1.alloc (ak #[K L r1,K L r2,D ro rn rc,K L r4] 53)=w2 at *;refine PL.out.mono ?_;rintro e2 w3 ⟨rfl,hb⟩;have BW:=J (B2.out.trans (hb.mono B2.out.size));have T1:=J (Y1.out.on hb);have T2:=J (Y2.out.on hb);have T3:=J (Y3.out.on hb);have TA:=AB.out.on hb;clear x4;clear d0 d1 d2 d3;have a3:=TA.cell 3;have d5:=T2.out.cell 5;simp only [U,O,Q] at a3 d5;obtain⟨fq,hfq⟩:∃ q,(y6 == r4)=q:=⟨_,rfl⟩;obtain⟨rt,hrt⟩:∃ q,(r4 == -1)=q:=⟨_,rfl⟩;have FQ:=J hfq;have RT:=J hrt;clear hb PL TA Y1 Y2 Y3 AB hw2;cases kn
 ·have LQ:=J (show gQ b e=(b,aj) from by
   rw [<- vM HR.out];unfold Kl;have h0:fV b.dO e.tree=ah:=by
    rw [ET.out];rcases HI.out with⟨_,h⟩|⟨h,_⟩
    ·exact h
    ·cases h
   rw [h0])
  have Q1:=T1.out;have Q3:=T3.out;obtain⟨x0,x1,x2,x3,x4,x5⟩:=Q1.fA;obtain⟨z0,z1,z2,z3,z4,z5⟩:=Q3.fA;obtain⟨zf0,zf1,zf2,zf3,zf4,zf5⟩:=Q3.kg;have zlt:=Q3.lt;have FB:=J (dK Q3 (K L b.me) (D no nn nc) (D ao an ac) (D so sn sc) (D eo en ec) (D oo dU oc));have FL:=J (dD (b:=w.heap.size+1+1) BW.out (by omega) (K L b.me) (D no nn nc) (D ao an ac) (D so sn sc) (D eo en ec) (D oo dU oc));clear Q1 Q3;go_wp2_with fail;clear z0 z1 z2 z3 z4 z5;obtain⟨v0,v1,v2,v3,v4,v5⟩:=FB.out.fA;refine aF (v:=.tuple #[aT #[K L b.me,D no nn nc,D ao an ac,D so sn sc,D eo en ec,D oo dU oc],Z aj]) (by simp [results,aB,go_sem,v0,v1,v2,v3,v4,v5]) rfl ?_;rw [LQ.out];exact⟨⟨(no,nn,nc),(ao,an,ac),(so,sn,sc),(eo,en,ec),(oo,dU,oc),rfl,HH.out.on FL.out,fun h=>h.on FL.out,fun h=>(h.resolve_right (by simp)).on FL.out,Or.inl rfl⟩,FL.out⟩
 ·cases th
  ·cases rt
   ·cases fq
    ·have x1:=T2.out.cell 1;have x0:=T2.out.cell 0;have x2:=T2.out.cell 2;have x3:=T2.out.cell 3;have x4:=T2.out.cell 4;have x6:=T2.out.cell 6;simp only [U,O,Q] at x0 x1 x2 x3 x4 x6;have PE:=J (show fK w3 (D yo yn yc) e.p from (EE.out.2.2.2.2).on BW.out);have S3X:=J (show w.heap.size<=w3.heap.size from BW.out.size);have CP:=J (EK (y1,y2,y3,y4,(yo,yn,yc),y6,y7) e.p w3 PE.out (mo OE.out));go_wp2_with fail;refine CP.out.mono ?_;rintro e4 w3b ⟨⟨⟨u1,u2,u3⟩,rfl,ho⟩,hb⟩;clear x0 x1 x2 x3 x4 x6;clear a3 d5;have V2:=T2.out.on hb;obtain⟨x0,x1,x2,x3,x4,x5,x6⟩:=V2.mU;obtain⟨xf0,xf1,WU,WV,NZ,WW,xf6⟩:=V2.fs7;have xlt:=V2.lt;have bs:=G7 w3b (w.heap.size+1) (K L y1) (K L y2) (K L y3) (K L y4) (D u1 u2 u3) (K L y6) (Z y7);have E2:=J (zy V2 (K L y1) (K L y2) (K L y3) (K L y4) (D u1 u2 u3) (K L y6) (Z y7));have E1:=J (bs.box (T1.out.on hb) (by omega));have E3:=J (bs.box (T3.out.on hb) (by omega));have EO:=J (bs.own ho V2 (by decide));have EL:=J (uy (b:=w.heap.size+1) (BW.out.trans (hb.mono BW.out.size)) (by omega) (K L y1) (K L y2) (K L y3) (K L y4) (D u1 u2 u3) (K L y6) (Z y7));have XH:=J (show w3.heap.size<=(GY w3b (w.heap.size+1) (K L y1) (K L y2) (K L y3) (K L y4) (D u1 u2 u3) (K L y6) (Z y7)).heap.size by have:=hb.size; simp; omega);have L4:=J (show w.heap.size+1+1<w3.heap.size from T3.out.lt);clear V2 ho hb CP T1 T2 T3 BW bs;go_upto_region 7 with fail;clear x0 x1 x2 x3 x4 x5 x6 xf0 xf1 WU WV NZ WW xf6 xlt;unfold GY at E2 E1 E3 EO EL XH;generalize (((((((w3b).setCell ⟨w.heap.size+1,0,ah⟩ (K L y1)).setCell ⟨w.heap.size+1,1,ah⟩ (K L y2)).setCell ⟨w.heap.size+1,2,ah⟩ (K L y3)).setCell ⟨w.heap.size+1,3,ah⟩ (K L y4)).setCell ⟨w.heap.size+1,4,ah⟩ (D u1 u2 u3)).setCell ⟨w.heap.size+1,5,ah⟩ (K L y6)).setCell ⟨w.heap.size+1,6,ah⟩ (Z y7)=w4b at *;have x1:=E2.out.cell 1;have x0:=E2.out.cell 0;have x4:=E2.out.cell 4;simp only [U,O,Q] at x0 x1 x4;obtain⟨z0,z1,z2,z3,z4,z5⟩:=E1.out.fA;have CV:=J (UJ b.me (D no nn nc) (D ao an ac) (D so sn sc) (D oo dU oc) (eo,en,ec) les b.ent (y1,y2) (D u1 u2 u3) e.p w4b (agK.out.on EL.out) (ael.out.mono fun _ _ q=>q.on EL.out) HR.out (by rw [ael.out.len]; have:=HF.out.ent; omega) (Row.dx EO.out) OK.out OE.out);obtain⟨cv,hcv⟩:∃ c,eX b.ent (y1,y2) e.p=c:=⟨_,rfl⟩;rw [hcv] at CV;have CVQ:=J hcv;clear hcv;go_wp2_with fail;refine CV.out.mono ?_;rintro e5 w4c ⟨rfl,hb⟩;clear x0 x1 x4;clear z0 z1 z2 z3 z4 z5
     replace E2:=J (E2.out.on hb)
     replace E1:=J (E1.out.on hb)
     replace E3:=J (E3.out.on hb)
     replace EO:=J (Bk.dB EO.out hb)
     replace XH:=J (au XH.out hb.size)
     replace EL:=J (EL.out.trans (hb.mono EL.out.size))
     clear CV hb;have x6:=E2.out.cell 6;have xf6:=E2.out.fr 6;have xlt:=E2.out.lt;simp only [U,O,Q] at x6;have bs:=dQ w4c (w.heap.size+1) 6 (Z (!cv));have T2:=J (show dJ (w4c.setCell ⟨w.heap.size+1,6,ah⟩ (Z (!cv))) (w.heap.size+1) #[K L y1,K L y2,K L y3,K L y4,D u1 u2 u3,K L y6,Z (!cv)] 68 by simpa using dN (k:=6) E2.out (Z (!cv)));have T1:=J (bs.box E1.out (by omega));have T3:=J (bs.box E3.out (by omega));have OC:=J (bs.own EO.out E2.out (by decide));have BW:=J (EL.out.setCell (p:=⟨w.heap.size+1,6,ah⟩) (by simp) (Z (!cv)));have S45:=J (show w3.heap.size<=(w4c.setCell ⟨w.heap.size+1,6,ah⟩ (Z (!cv))).heap.size by have:=XH.out; simp; omega);clear bs E1 E2 E3 EO EL XH;go_upto_region 8 with fail;clear x6 xf6 xlt;generalize w4c.setCell ⟨w.heap.size+1,6,ah⟩ (Z (!cv))=w5 at *;have LQ:=J (show gQ b e=({ b with ent:=fP b.ent k { e with up:=(!cv) } },(!cv)) from by
      rw [<- vM HR.out];unfold Kl;obtain⟨a,h0,h1⟩:∃ a,fV b.dO e.tree=aN a/\r4=a.par:=by
       rw [ET.out];rcases HI.out with⟨h,_⟩|⟨_,h⟩
       ·cases h
       ·exact h
      rw [h0];simp only;rw [if_neg (by rw [ET.out,ES.out,TH.out]; simp),if_neg ?_,show eP (b.ent.map fB) (e.tree,e.sub)=k by rw [ET.out,ES.out]; exact HK.out,<- h1,RT.out]
      ·rw [ET.out,CVQ.out]
       rfl
      ·rintro⟨g,_⟩;rw [EF.out,<- h1] at g;have:=FQ.out;simp at this;exact this g)
     have Q1:=T1.out;obtain⟨x0,x1,x2,x3,x4,x5⟩:=Q1.fA;clear Q1;go_wp2_with fail;refine (wM b (no,nn,nc) (ao,an,ac) (so,sn,sc) (eo,en,ec) (oo,dU,oc) w w5 BW.out HH.out HF.out HP.out).mono ?_;rintro e6 w6 ⟨⟨⟨p1,q1,s1⟩,⟨p2,q2,s2⟩,⟨p3,q3,s3⟩,⟨p4,q4,s4⟩,⟨p5,q5,s5⟩,rfl,cp⟩,hb6⟩;clear x0 x1 x2 x3 x4 x5;have V1:=T1.out.on hb6;have V2:=J (T2.out.on hb6);have V3:=J (T3.out.on hb6);obtain⟨x0,x1,x2,x3,x4,x5⟩:=V1.fA;obtain⟨xf0,xf1,WU,WV,NZ,WW⟩:=V1.kg;have xlt:=V1.lt;have bs:=gD w6 w.heap.size (K L b.me) (D p1 q1 s1) (D p2 q2 s2) (D p3 q3 s3) (D p4 q4 s4) (D p5 q5 s5);have FB:=J (dK V1 (K L b.me) (D p1 q1 s1) (D p2 q2 s2) (D p3 q3 s3) (D p4 q4 s4) (D p5 q5 s5));have FC:=J (Sb.Cp.less (cp.but bs V1) (show w3.heap.size<=w5.heap.size from S45.out));have FO:=J (bs.own (Bk.dB OC.out hb6) V1 (by decide));have FL:=J (dD (b:=w.heap.size) (BW.out.trans (hb6.mono BW.out.size)) (aI _) (K L b.me) (D p1 q1 s1) (D p2 q2 s2) (D p3 q3 s3) (D p4 q4 s4) (D p5 q5 s5));have F2:=J (bs.box V2.out (by omega));have F3:=J (bs.box V3.out (by omega));have SZ:=J (show w3.heap.size<=(gP w6 w.heap.size (K L b.me) (D p1 q1 s1) (D p2 q2 s2) (D p3 q3 s3) (D p4 q4 s4) (D p5 q5 s5)).heap.size by have:=hb6.size; have:=S45.out; simp; omega);clear V1 V2 V3 cp hb6 bs T1 T2 T3 OC BW;go_upto_region 9 with fail;clear x0 x1 x2 x3 x4 x5 xf0 xf1 WU WV NZ WW xlt;unfold gP at FB FC FL F2 F3 SZ FO;generalize ((((((w6).setCell ⟨w.heap.size,0,ah⟩ (K L b.me)).setCell ⟨w.heap.size,1,ah⟩ (D p1 q1 s1)).setCell ⟨w.heap.size,2,ah⟩ (D p2 q2 s2)).setCell ⟨w.heap.size,3,ah⟩ (D p3 q3 s3)).setCell ⟨w.heap.size,4,ah⟩ (D p4 q4 s4)).setCell ⟨w.heap.size,5,ah⟩ (D p5 q5 s5)=w7 at *;obtain⟨le,hle1,hle2⟩:=FC.out.ent;have vP:=J hle1;have HL2:=J hle2;clear hle1 hle2;have nb:=fE w7 (ak #[K L y1,K L y2,K L y3,K L y4,D u1 u2 u3,K L y6,Z (!cv)] 68);have bx:=dL w7 #[K L y1,K L y2,K L y3,K L y4,D u1 u2 u3,K L y6,Z (!cv)] 68;have IN:=J (xE w3.heap.size (D p4 q4 s4) le k (y1,y2,y3,y4,(u1,u2,u3),y6,(!cv)) w7.heap.size _ (Bk.dB vP.out nb) bx (fun e=>by
      obtain⟨d,hd⟩:=kL vP.out _ e;have:=hd.lt;omega) (by rw [HL2.out.len]; exact KL.out) (by rw [HL2.out.len]; exact HF.out.ent) (au SZ.out nb.size))
     have FB2:=J (FB.out.on nb);have F22:=J (F2.out.on nb);have F32:=J (F3.out.on nb);have FO2:=J (Bk.dB FO.out nb);have FC2:=J (FC.out.grow nb);have FL2:=J (FL.out.trans (nb.mono FL.out.size));have HA2:=J (HL2.out.mono fun _ _ q=>q.grow nb);have Fe:=J (kL (Bk.dB vP.out nb));have x4:=FB.out.cell 4;simp only [U,O,Q] at x4;obtain⟨d0,d1,d2,d3,d4,d5,d6⟩:=F2.out.mU;clear nb bx;go_wp2_with fail;refine IN.out.mono ?_;rintro e8 w8 ⟨v8,rfl,hown,hbel,hoth⟩;clear x4;clear d0 d1 d2 d3 d4 d5 d6;generalize w7.alloc (ak #[K L y1,K L y2,K L y3,K L y4,D u1 u2 u3,K L y6,Z (!cv)] 68)=w7a at *;obtain⟨t1,t2,hv8⟩:=(Row.dx hown).len;subst hv8;generalize (le.take k++(y1,y2,y3,y4,(u1,u2,u3),y6,(!cv))::le.drop k).length=tn at *;have hoff:Off (D p4 q4 s4).ownBlock w7a w8:=⟨hoth,hbel.size⟩;have CP:=J (FC2.out.adC (ev':=(t1,tn,t2)) (el:=fP b.ent k { e with up:=(!cv) }) hoff ⟨fP le k (y1,y2,y3,y4,(u1,u2,u3),y6,(!cv)),by unfold fP; rw [aM]; exact hown,zu (HA2.out.mono fun _ _ q=>q.off hoff Fe.out (by decide)) k ⟨EE.out.1,EE.out.2.1,EE.out.2.2.1,rfl,Or.inr (hoff.own FO2.out Fe.out (by decide))⟩⟩);have G1:=hoff.box FB2.out Fe.out (by decide);have G3:=hoff.box F32.out Fe.out (by decide);have G2:=J (show dJ w8 (w.heap.size+1) #[K L y1,K L y2,K L y3,K L y4,D u1 u2 u3,K L y6,Z (!cv)] 68 from (hoth _ F22.out.lt (fun e=>by
      have:=MJ vP.out _ e.symm;have:=L4.out;omega)).trans F22.out)
     have NC:=J (show dJ (w8.setCell ⟨w.heap.size,4,ah⟩ (D t1 tn t2)) w.heap.size #[K L b.me,D p1 q1 s1,D p2 q2 s2,D p3 q3 s3,D t1 tn t2,D p5 q5 s5] 33 by simpa using dN (k:=4) G1 (D t1 tn t2));have MC:=J (CP.out.but (dQ w8 w.heap.size 4 (D t1 tn t2)) G1);have M3:=J ((dQ w8 w.heap.size 4 (D t1 tn t2)).box G3 (by omega));have M2:=J ((dQ w8 w.heap.size 4 (D t1 tn t2)).box G2.out (by omega));have ML:=J (show Below w.heap.size w (w8.setCell ⟨w.heap.size,4,ah⟩ (D t1 tn t2)) from (FL2.out.trans (hbel.mono (by have:=L4.out; omega))).setCell (p:=⟨w.heap.size,4,ah⟩) (aI _) _);have x4:=G1.cell 4;have NZ:=G1.fr 4;have xlt:=G1.lt;simp only [U,O,Q] at x4;clear hown hbel hoth hoff G1 G2 G3 CP FB FB2 FC FC2 FO FO2 F2 F22 F3 F32 FL FL2 vP HL2 HA2 Fe IN SZ;go_upto_region 10 with fail;clear x4 NZ xlt;generalize w8.setCell ⟨w.heap.size,4,ah⟩ (D t1 tn t2)=w9 at *;have Q1:=NC.out;have Q2:=M2.out;have Q3:=M3.out;obtain⟨x0,x1,x2,x3,x4,x5⟩:=Q1.fA;have d6:=Q2.cell 6;simp only [U,O,Q] at d6;obtain⟨z0,z1,z2,z3,z4,z5⟩:=Q3.fA;obtain⟨zf0,zf1,zf2,zf3,zf4,zf5⟩:=Q3.kg;have zlt:=Q3.lt;have FB:=J ((dK Q3 (K L b.me) (D p1 q1 s1) (D p2 q2 s2) (D p3 q3 s3) (D t1 tn t2) (D p5 q5 s5)).on (aG _ _).drew);have FC:=J ((MC.out.but (gD w9 (w.heap.size+1+1) (K L b.me) (D p1 q1 s1) (D p2 q2 s2) (D p3 q3 s3) (D t1 tn t2) (D p5 q5 s5)) Q3).grow (aG _ _).drew);have FL:=J (dD (b:=w.heap.size+1+1) ML.out (by omega) (K L b.me) (D p1 q1 s1) (D p2 q2 s2) (D p3 q3 s3) (D t1 tn t2) (D p5 q5 s5)).drew;clear Q1 Q2 Q3 NC MC M2 M3 ML;go_wp2
     go_region
     all_goals simp only [Exit.then]
     all_goals apply_assumption
     all_goals
      clear x0 x1 x2 x3 x4 x5;clear z0 z1 z2 z3 z4 z5 zf0 zf1 zf2 zf3 zf4 zf5 zlt;clear d6;unfold gP at FB FC FL;generalize (((((((w9).setCell ⟨w.heap.size+1+1,0,ah⟩ (K L b.me)).setCell ⟨w.heap.size+1+1,1,ah⟩ (D p1 q1 s1)).setCell ⟨w.heap.size+1+1,2,ah⟩ (D p2 q2 s2)).setCell ⟨w.heap.size+1+1,3,ah⟩ (D p3 q3 s3)).setCell ⟨w.heap.size+1+1,4,ah⟩ (D t1 tn t2)).setCell ⟨w.heap.size+1+1,5,ah⟩ (D p5 q5 s5)).drew=wz at *;obtain⟨v0,v1,v2,v3,v4,v5⟩:=FB.out.fA;go_wp2;refine aF (v:=.tuple #[aT #[K L b.me,D p1 q1 s1,D p2 q2 s2,D p3 q3 s3,D t1 tn t2,D p5 q5 s5],Z (!cv)]) (by simp [results,aB,go_sem,v0,v1,v2,v3,v4,v5]) rfl ?_;rw [LQ.out];exact⟨⟨(p1,q1,s1),(p2,q2,s2),(p3,q3,s3),(t1,tn,t2),(p5,q5,s5),rfl,FC.out.vbr,fun _=>⟨_,FC.out.near⟩,fun _=>⟨_,_,FC.out⟩,Or.inr ⟨_,_,S3X.out,FC.out⟩⟩,FL.out⟩
    ·have LQ:=J (show gQ b e=(b,aj) from by
      rw [<- vM HR.out];unfold Kl;obtain⟨a,h0,h1⟩:∃ a,fV b.dO e.tree=aN a/\r4=a.par:=by
       rw [ET.out];rcases HI.out with⟨h,_⟩|⟨_,h⟩
       ·cases h
       ·exact h
      rw [h0];simp only;rw [if_neg (by rw [ET.out,ES.out,TH.out]; simp),if_pos ?_];refine⟨?_,?_⟩
      ·rw [EF.out,<- h1];have:=FQ.out;simpa using this
      ·rw [<- h1];have:=RT.out;simpa using this)
     have Q1:=T1.out;have Q3:=T3.out;obtain⟨x0,x1,x2,x3,x4,x5⟩:=Q1.fA;obtain⟨z0,z1,z2,z3,z4,z5⟩:=Q3.fA;obtain⟨zf0,zf1,zf2,zf3,zf4,zf5⟩:=Q3.kg;have zlt:=Q3.lt;have FB:=J (dK Q3 (K L b.me) (D no nn nc) (D ao an ac) (D so sn sc) (D eo en ec) (D oo dU oc));have FL:=J (dD (b:=w.heap.size+1+1) BW.out (by omega) (K L b.me) (D no nn nc) (D ao an ac) (D so sn sc) (D eo en ec) (D oo dU oc));clear Q1 Q3;go_wp2_with fail;clear z0 z1 z2 z3 z4 z5;obtain⟨v0,v1,v2,v3,v4,v5⟩:=FB.out.fA;refine aF (v:=.tuple #[aT #[K L b.me,D no nn nc,D ao an ac,D so sn sc,D eo en ec,D oo dU oc],Z aj]) (by simp [results,aB,go_sem,v0,v1,v2,v3,v4,v5]) rfl ?_;rw [LQ.out];exact⟨⟨(no,nn,nc),(ao,an,ac),(so,sn,sc),(eo,en,ec),(oo,dU,oc),rfl,HH.out.on FL.out,fun h=>h.on FL.out,fun h=>(h.resolve_right (by simp)).on FL.out,Or.inl rfl⟩,FL.out⟩
   ·cases fq
    all_goals
     have x1:=T2.out.cell 1;have x0:=T2.out.cell 0;have x2:=T2.out.cell 2;have x3:=T2.out.cell 3;have x4:=T2.out.cell 4;have x6:=T2.out.cell 6;simp only [U,O,Q] at x0 x1 x2 x3 x4 x6;have PE:=J (show fK w3 (D yo yn yc) e.p from (EE.out.2.2.2.2).on BW.out);have S3X:=J (show w.heap.size<=w3.heap.size from BW.out.size);have CP:=J (EK (y1,y2,y3,y4,(yo,yn,yc),y6,y7) e.p w3 PE.out (mo OE.out));go_wp2_with fail;refine CP.out.mono ?_;rintro e4 w3b ⟨⟨⟨u1,u2,u3⟩,rfl,ho⟩,hb⟩;clear x0 x1 x2 x3 x4 x6;clear a3 d5;have V2:=T2.out.on hb;obtain⟨x0,x1,x2,x3,x4,x5,x6⟩:=V2.mU;obtain⟨xf0,xf1,WU,WV,NZ,WW,xf6⟩:=V2.fs7;have xlt:=V2.lt;have bs:=G7 w3b (w.heap.size+1) (K L y1) (K L y2) (K L y3) (K L y4) (D u1 u2 u3) (K L y6) (Z y7);have E2:=J (zy V2 (K L y1) (K L y2) (K L y3) (K L y4) (D u1 u2 u3) (K L y6) (Z y7));have E1:=J (bs.box (T1.out.on hb) (by omega));have E3:=J (bs.box (T3.out.on hb) (by omega));have EO:=J (bs.own ho V2 (by decide));have EL:=J (uy (b:=w.heap.size+1) (BW.out.trans (hb.mono BW.out.size)) (by omega) (K L y1) (K L y2) (K L y3) (K L y4) (D u1 u2 u3) (K L y6) (Z y7));have XH:=J (show w3.heap.size<=(GY w3b (w.heap.size+1) (K L y1) (K L y2) (K L y3) (K L y4) (D u1 u2 u3) (K L y6) (Z y7)).heap.size by have:=hb.size; simp; omega);have L4:=J (show w.heap.size+1+1<w3.heap.size from T3.out.lt);clear V2 ho hb CP T1 T2 T3 BW bs;go_upto_region 7 with fail;clear x0 x1 x2 x3 x4 x5 x6 xf0 xf1 WU WV NZ WW xf6 xlt;unfold GY at E2 E1 E3 EO EL XH;generalize (((((((w3b).setCell ⟨w.heap.size+1,0,ah⟩ (K L y1)).setCell ⟨w.heap.size+1,1,ah⟩ (K L y2)).setCell ⟨w.heap.size+1,2,ah⟩ (K L y3)).setCell ⟨w.heap.size+1,3,ah⟩ (K L y4)).setCell ⟨w.heap.size+1,4,ah⟩ (D u1 u2 u3)).setCell ⟨w.heap.size+1,5,ah⟩ (K L y6)).setCell ⟨w.heap.size+1,6,ah⟩ (Z y7)=w4b at *;have x6:=E2.out.cell 6;have xf6:=E2.out.fr 6;have xlt:=E2.out.lt;simp only [U,O,Q] at x6;have bs:=dQ w4b (w.heap.size+1) 6 (Z aj);have T2:=J (show dJ (w4b.setCell ⟨w.heap.size+1,6,ah⟩ (Z aj)) (w.heap.size+1) #[K L y1,K L y2,K L y3,K L y4,D u1 u2 u3,K L y6,Z aj] 68 by simpa using dN (k:=6) E2.out (Z aj));have T1:=J (bs.box E1.out (by omega));have T3:=J (bs.box E3.out (by omega));have OC:=J (bs.own EO.out E2.out (by decide));have BW:=J (EL.out.setCell (p:=⟨w.heap.size+1,6,ah⟩) (by simp) (Z aj));have S45:=J (show w3.heap.size<=(w4b.setCell ⟨w.heap.size+1,6,ah⟩ (Z aj)).heap.size by have:=XH.out; simp; omega);clear bs E1 E2 E3 EO EL XH;go_upto_region 8 with fail;clear x6 xf6 xlt;generalize w4b.setCell ⟨w.heap.size+1,6,ah⟩ (Z aj)=w5 at *;have LQ:=J (show gQ b e=({ b with ent:=fP b.ent k { e with up:=aj } },aj) from by
      rw [<- vM HR.out];unfold Kl;obtain⟨a,h0,h1⟩:∃ a,fV b.dO e.tree=aN a/\r4=a.par:=by
       rw [ET.out];rcases HI.out with⟨h,_⟩|⟨_,h⟩
       ·cases h
       ·exact h
      rw [h0];simp only;rw [if_neg (by rw [ET.out,ES.out,TH.out]; simp),if_neg ?_,show eP (b.ent.map fB) (e.tree,e.sub)=k by rw [ET.out,ES.out]; exact HK.out,<- h1,RT.out]
      ·rfl
      ·rintro⟨_,g⟩;rw [<- h1] at g;have:=RT.out;simp at this;exact g this)
     have Q1:=T1.out;obtain⟨x0,x1,x2,x3,x4,x5⟩:=Q1.fA;clear Q1;go_wp2_with fail;refine (wM b (no,nn,nc) (ao,an,ac) (so,sn,sc) (eo,en,ec) (oo,dU,oc) w w5 BW.out HH.out HF.out HP.out).mono ?_;rintro e6 w6 ⟨⟨⟨p1,q1,s1⟩,⟨p2,q2,s2⟩,⟨p3,q3,s3⟩,⟨p4,q4,s4⟩,⟨p5,q5,s5⟩,rfl,cp⟩,hb6⟩;clear x0 x1 x2 x3 x4 x5;have V1:=T1.out.on hb6;have V2:=J (T2.out.on hb6);have V3:=J (T3.out.on hb6);obtain⟨x0,x1,x2,x3,x4,x5⟩:=V1.fA;obtain⟨xf0,xf1,WU,WV,NZ,WW⟩:=V1.kg;have xlt:=V1.lt;have bs:=gD w6 w.heap.size (K L b.me) (D p1 q1 s1) (D p2 q2 s2) (D p3 q3 s3) (D p4 q4 s4) (D p5 q5 s5);have FB:=J (dK V1 (K L b.me) (D p1 q1 s1) (D p2 q2 s2) (D p3 q3 s3) (D p4 q4 s4) (D p5 q5 s5));have FC:=J (Sb.Cp.less (cp.but bs V1) (show w3.heap.size<=w5.heap.size from S45.out));have FO:=J (bs.own (Bk.dB OC.out hb6) V1 (by decide));have FL:=J (dD (b:=w.heap.size) (BW.out.trans (hb6.mono BW.out.size)) (aI _) (K L b.me) (D p1 q1 s1) (D p2 q2 s2) (D p3 q3 s3) (D p4 q4 s4) (D p5 q5 s5));have F2:=J (bs.box V2.out (by omega));have F3:=J (bs.box V3.out (by omega));have SZ:=J (show w3.heap.size<=(gP w6 w.heap.size (K L b.me) (D p1 q1 s1) (D p2 q2 s2) (D p3 q3 s3) (D p4 q4 s4) (D p5 q5 s5)).heap.size by have:=hb6.size; have:=S45.out; simp; omega);clear V1 V2 V3 cp hb6 bs T1 T2 T3 OC BW;go_upto_region 9 with fail;clear x0 x1 x2 x3 x4 x5 xf0 xf1 WU WV NZ WW xlt;unfold gP at FB FC FL F2 F3 SZ FO;generalize ((((((w6).setCell ⟨w.heap.size,0,ah⟩ (K L b.me)).setCell ⟨w.heap.size,1,ah⟩ (D p1 q1 s1)).setCell ⟨w.heap.size,2,ah⟩ (D p2 q2 s2)).setCell ⟨w.heap.size,3,ah⟩ (D p3 q3 s3)).setCell ⟨w.heap.size,4,ah⟩ (D p4 q4 s4)).setCell ⟨w.heap.size,5,ah⟩ (D p5 q5 s5)=w7 at *;obtain⟨le,hle1,hle2⟩:=FC.out.ent;have vP:=J hle1;have HL2:=J hle2;clear hle1 hle2;have nb:=fE w7 (ak #[K L y1,K L y2,K L y3,K L y4,D u1 u2 u3,K L y6,Z aj] 68);have bx:=dL w7 #[K L y1,K L y2,K L y3,K L y4,D u1 u2 u3,K L y6,Z aj] 68;have IN:=J (xE w3.heap.size (D p4 q4 s4) le k (y1,y2,y3,y4,(u1,u2,u3),y6,aj) w7.heap.size _ (Bk.dB vP.out nb) bx (fun e=>by
      obtain⟨d,hd⟩:=kL vP.out _ e;have:=hd.lt;omega) (by rw [HL2.out.len]; exact KL.out) (by rw [HL2.out.len]; exact HF.out.ent) (au SZ.out nb.size))
     have FB2:=J (FB.out.on nb);have F22:=J (F2.out.on nb);have F32:=J (F3.out.on nb);have FO2:=J (Bk.dB FO.out nb);have FC2:=J (FC.out.grow nb);have FL2:=J (FL.out.trans (nb.mono FL.out.size));have HA2:=J (HL2.out.mono fun _ _ q=>q.grow nb);have Fe:=J (kL (Bk.dB vP.out nb));have x4:=FB.out.cell 4;simp only [U,O,Q] at x4;obtain⟨d0,d1,d2,d3,d4,d5,d6⟩:=F2.out.mU;clear nb bx;go_wp2_with fail;refine IN.out.mono ?_;rintro e8 w8 ⟨v8,rfl,hown,hbel,hoth⟩;clear x4;clear d0 d1 d2 d3 d4 d5 d6;generalize w7.alloc (ak #[K L y1,K L y2,K L y3,K L y4,D u1 u2 u3,K L y6,Z aj] 68)=w7a at *;obtain⟨t1,t2,hv8⟩:=(Row.dx hown).len;subst hv8;generalize (le.take k++(y1,y2,y3,y4,(u1,u2,u3),y6,aj)::le.drop k).length=tn at *;have hoff:Off (D p4 q4 s4).ownBlock w7a w8:=⟨hoth,hbel.size⟩;have CP:=J (FC2.out.adC (ev':=(t1,tn,t2)) (el:=fP b.ent k { e with up:=aj }) hoff ⟨fP le k (y1,y2,y3,y4,(u1,u2,u3),y6,aj),by unfold fP; rw [aM]; exact hown,zu (HA2.out.mono fun _ _ q=>q.off hoff Fe.out (by decide)) k ⟨EE.out.1,EE.out.2.1,EE.out.2.2.1,rfl,Or.inr (hoff.own FO2.out Fe.out (by decide))⟩⟩);have G1:=hoff.box FB2.out Fe.out (by decide);have G3:=hoff.box F32.out Fe.out (by decide);have G2:=J (show dJ w8 (w.heap.size+1) #[K L y1,K L y2,K L y3,K L y4,D u1 u2 u3,K L y6,Z aj] 68 from (hoth _ F22.out.lt (fun e=>by
      have:=MJ vP.out _ e.symm;have:=L4.out;omega)).trans F22.out)
     have NC:=J (show dJ (w8.setCell ⟨w.heap.size,4,ah⟩ (D t1 tn t2)) w.heap.size #[K L b.me,D p1 q1 s1,D p2 q2 s2,D p3 q3 s3,D t1 tn t2,D p5 q5 s5] 33 by simpa using dN (k:=4) G1 (D t1 tn t2));have MC:=J (CP.out.but (dQ w8 w.heap.size 4 (D t1 tn t2)) G1);have M3:=J ((dQ w8 w.heap.size 4 (D t1 tn t2)).box G3 (by omega));have M2:=J ((dQ w8 w.heap.size 4 (D t1 tn t2)).box G2.out (by omega));have ML:=J (show Below w.heap.size w (w8.setCell ⟨w.heap.size,4,ah⟩ (D t1 tn t2)) from (FL2.out.trans (hbel.mono (by have:=L4.out; omega))).setCell (p:=⟨w.heap.size,4,ah⟩) (aI _) _);have x4:=G1.cell 4;have NZ:=G1.fr 4;have xlt:=G1.lt;simp only [U,O,Q] at x4;clear hown hbel hoth hoff G1 G2 G3 CP FB FB2 FC FC2 FO FO2 F2 F22 F3 F32 FL FL2 vP HL2 HA2 Fe IN SZ;go_upto_region 10 with fail;clear x4 NZ xlt;generalize w8.setCell ⟨w.heap.size,4,ah⟩ (D t1 tn t2)=w9 at *;have Q1:=NC.out;have Q2:=M2.out;have Q3:=M3.out;obtain⟨x0,x1,x2,x3,x4,x5⟩:=Q1.fA;have d6:=Q2.cell 6;simp only [U,O,Q] at d6;obtain⟨z0,z1,z2,z3,z4,z5⟩:=Q3.fA;obtain⟨zf0,zf1,zf2,zf3,zf4,zf5⟩:=Q3.kg;have zlt:=Q3.lt;have FB:=J ((dK Q3 (K L b.me) (D p1 q1 s1) (D p2 q2 s2) (D p3 q3 s3) (D t1 tn t2) (D p5 q5 s5)).on (aG _ _).drew);have FC:=J ((MC.out.but (gD w9 (w.heap.size+1+1) (K L b.me) (D p1 q1 s1) (D p2 q2 s2) (D p3 q3 s3) (D t1 tn t2) (D p5 q5 s5)) Q3).grow (aG _ _).drew);have FL:=J (dD (b:=w.heap.size+1+1) ML.out (by omega) (K L b.me) (D p1 q1 s1) (D p2 q2 s2) (D p3 q3 s3) (D t1 tn t2) (D p5 q5 s5)).drew;clear Q1 Q2 Q3 NC MC M2 M3 ML;go_wp2
     go_region
     all_goals simp only [Exit.then]
     all_goals apply_assumption
     all_goals
      clear x0 x1 x2 x3 x4 x5;clear z0 z1 z2 z3 z4 z5 zf0 zf1 zf2 zf3 zf4 zf5 zlt;clear d6;unfold gP at FB FC FL;generalize (((((((w9).setCell ⟨w.heap.size+1+1,0,ah⟩ (K L b.me)).setCell ⟨w.heap.size+1+1,1,ah⟩ (D p1 q1 s1)).setCell ⟨w.heap.size+1+1,2,ah⟩ (D p2 q2 s2)).setCell ⟨w.heap.size+1+1,3,ah⟩ (D p3 q3 s3)).setCell ⟨w.heap.size+1+1,4,ah⟩ (D t1 tn t2)).setCell ⟨w.heap.size+1+1,5,ah⟩ (D p5 q5 s5)).drew=wz at *;obtain⟨v0,v1,v2,v3,v4,v5⟩:=FB.out.fA;go_wp2;refine aF (v:=.tuple #[aT #[K L b.me,D p1 q1 s1,D p2 q2 s2,D p3 q3 s3,D t1 tn t2,D p5 q5 s5],Z aj]) (by simp [results,aB,go_sem,v0,v1,v2,v3,v4,v5]) rfl ?_;rw [LQ.out];exact⟨⟨(p1,q1,s1),(p2,q2,s2),(p3,q3,s3),(t1,tn,t2),(p5,q5,s5),rfl,FC.out.vbr,fun _=>⟨_,FC.out.near⟩,fun _=>⟨_,_,FC.out⟩,Or.inr ⟨_,_,S3X.out,FC.out⟩⟩,FL.out⟩
  ·have LQ:=J (show gQ b e=(b,aj) from by
    rw [<- vM HR.out];unfold Kl;obtain⟨a,h0,h1⟩:∃ a,fV b.dO e.tree=aN a/\r4=a.par:=by
     rw [ET.out];rcases HI.out with⟨h,_⟩|⟨_,h⟩
     ·cases h
     ·exact h
    rw [h0];simp only;rw [if_pos (by rw [ET.out,ES.out,TH.out])])
   have Q1:=T1.out;have Q3:=T3.out;obtain⟨x0,x1,x2,x3,x4,x5⟩:=Q1.fA;obtain⟨z0,z1,z2,z3,z4,z5⟩:=Q3.fA;obtain⟨zf0,zf1,zf2,zf3,zf4,zf5⟩:=Q3.kg;have zlt:=Q3.lt;have FB:=J (dK Q3 (K L b.me) (D no nn nc) (D ao an ac) (D so sn sc) (D eo en ec) (D oo dU oc));have FL:=J (dD (b:=w.heap.size+1+1) BW.out (by omega) (K L b.me) (D no nn nc) (D ao an ac) (D so sn sc) (D eo en ec) (D oo dU oc));clear Q1 Q3;go_wp2_with fail;clear z0 z1 z2 z3 z4 z5;obtain⟨v0,v1,v2,v3,v4,v5⟩:=FB.out.fA;refine aF (v:=.tuple #[aT #[K L b.me,D no nn nc,D ao an ac,D so sn sc,D eo en ec,D oo dU oc],Z aj]) (by simp [results,aB,go_sem,v0,v1,v2,v3,v4,v5]) rfl ?_;rw [LQ.out];exact⟨⟨(no,nn,nc),(ao,an,ac),(so,sn,sc),(eo,en,ec),(oo,dU,oc),rfl,HH.out.on FL.out,fun h=>h.on FL.out,fun h=>(h.resolve_right (by simp)).on FL.out,Or.inl rfl⟩,FL.out⟩
theorem UL (b:Br) (e:En) (nv av sv ev ov:Sl) (x:iA) (w:aA) (h:gZ w b nv av sv ev ov) (he:iW w x e) (hf:Np b) (hp:xQ b) (hr:kG b.ent) (hok:∀ e∈b.ent,dW e.p) (hoe:dW e.p) :
  aP aC 22 #[ny b.me nv av sv ev ov,qR x] w (uZ w (kM w nv b.near) (YG w b nv av sv ev ov) (gQ b e)) :=
 (PY b e nv av sv ev ov x w h he hf hp hr hok hoe).mono fun _ _ h=>h.two
theorem I5 (b:Br) (e:En) (nv av sv ev ov:Sl) (x:iA) (w:aA) (h:gZ w b nv av sv ev ov) (he:iW w x e) (hf:Np b) (hp:xQ b) (hr:kG b.ent) (hok:∀ e∈b.ent,dW e.p) (hoe:dW e.p) :
  aP aC 22 #[ny b.me nv av sv ev ov,qR x] w (JL w (kM w nv b.near) (gQ b e)) :=
 (UL b e nv av sv ev ov x w h he hf hp hr hok hoe).mono fun _ _ h=>h.one
end Go.Proofs.YtkcfgbddlpomgaaGreat.Sb
