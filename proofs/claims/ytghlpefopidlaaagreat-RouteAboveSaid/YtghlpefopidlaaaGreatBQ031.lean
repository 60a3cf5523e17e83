/-
  covered and tight of. Conditions as told.
-/
import Derived.Test.YtghlpefopidlaaaGreatBQ028
import Derived.Test.YtghlpefopidlaaaGreatBQ029
import Derived.Test.YtghlpefopidlaaaGreatBQ030
set_option maxRecDepth 100000
set_option maxHeartbeats 64000000
open _root_.Bool renaming false->aA,true->aP
open _root_.Go renaming World->aF,bodyPost_ret->aQ,Value->bg,Calls->bF
open Go.Ending renaming returned->aR
open Go.IntKind renaming i64->Q
open Go.Lib renaming hid->D
open Go.Obj renaming cells->aD
open Go.Proofs.Tryz renaming prog->aI,results114->aM
open Go.Proofs.YtghlpefopidlaaaGreat.Bk renaming dL->aH
open Go.RowKit.Below renaming refl->aG
open Go.Value renaming slice->J,int->O,bool->ak,agg->bH
open _root_.List renaming getElem?_cons_zero->U,getElem?_cons_succ->Z,getElem?_toArray->ah,append_assoc->au,mem_of_getElem?->ay,getElem?_eq_some_iff->aB,getElem?_eq_getElem->aC,getElem?_append_right->aS,getElem?_append_left->aT,length_take->aV,getElem?_set_self->aW,take_append_drop->aX,getElem?_map->bf
open _root_.Nat renaming le_trans->aK,add_sub_cancel_left->aN,le_refl->aU,lt_of_lt_of_le->aZ,zero_le->bC,lt_or_ge->bG
open _root_.Option renaming none->aj,some->aJ
open Option.some renaming inj->aO
open _root_.Or renaming inr->aY,inl->bD
namespace Go.Proofs.YtghlpefopidlaaaGreat
namespace Sb
open Go.RowKit Go.Sort Rw YtghlpefopidlaaaGreat.Nm Pr Bk Av Rl
theorem wC (zf bv:bg) (p q:List C5) (w:aF) (ha:fF w zf p) (hb:fF w bv q) (hp:dN p) (hq:dN q) :
  bF aI 27 #[zf,bv] w fun e w'=>e=aR (ak (fG p q))/\Below w.heap.size w w':=by
 obtain⟨a,na,rfl⟩:=hp;obtain⟨b,nb,rfl⟩:=hq;unfold fG;rw [rP,rP];exact Fp zf bv a b w ha hb na nb
theorem Uq {α:Type} (f:α->Bool) {l:List α} (h:∀ (j:Nat) (y:α),j<l.length->l[j]?=aJ y->f y=aA):l.any f=aA:=by
 rw [List.any_eq_false];intro e he;obtain⟨j,hj,hje⟩:=List.getElem_of_mem he;simpa using h j e hj (by rw [aC hj,hje])
theorem Ur {α:Type} (f:α->Bool) {l:List α} {k:Nat} {y:α} (h:l[k]?=aJ y) (hf:f y=aP):l.any f=aP:=by
 rw [List.any_eq_true];exact⟨y,ay h,hf⟩
abbrev cE (p:List C5) (e:En):Bool:=e.up && fG e.p p
theorem uf (v:Sl) (pv:bg) (l:List jl) (m:List En) (p':List C5) (w:aF) (hs:mP w (dQ v) l) (hu:eT (kP w) l m) (hp:fF w pv p') (hok:∀ e∈m,dN e.p) (hop:dN p') :
  bF aI 131 #[dQ v,pv] w fun e w'=>e=aR (ak (xX m p'))/\Below w.heap.size w w':=by
 have HU:=D hu;have HP:=D hp;have OK:=D hok;have OP:=D hop;obtain⟨pa,pc,rfl⟩:=hp.len;generalize p'.length=pn at *;obtain⟨so,n,sc⟩:=v;have hn:=gZ hs;have HS:=D hs;have lm:=hs.most;unfold maxLen at lm;rw [hn] at lm;have HN:=D hn;clear hu hp hok hop hs hn;go_enter Tryz.func131,Tryz.ntmps131;go_wp2
 go_loopw [9] (fun i wr=>∃ k:Nat,k<=n/\i=O Q k/\Below w.heap.size w wr/\∀ (j:Nat) (y:En),j<k->m[j]?=aJ y->cE p' y=aA) (fun i _=>n-(intOf i).toNat)
 case atStart=>exact⟨0,bC _,rfl,aG _ _,fun j y h=>by omega⟩
 case round =>
  obtain⟨k,hk,rfl,hbe,hall⟩:=hrel;have BE:=D hbe;have AL:=D hall;clear hbe hall;by_cases hlt:k<n
  ·obtain⟨y,hy⟩:∃ y,l[k]?=aJ y:=⟨_,aC (by rw [HN.out]; exact hlt)⟩;obtain⟨q,ix,px⟩:=TT HS.out rfl HN.out hy;obtain⟨p0,p1,p2,p3,p4,p5,p6⟩:=px wr BE.out;obtain⟨e,he,_,hin⟩:=jA HU.out hy;obtain⟨y1,y2,y3,y4,⟨yo,yn,yc⟩,y6,y7⟩:=y;simp only at p0 p1 p2 p3 p4 p5 p6;have NB:=D (jk wr (aD #[O Q y1,O Q y2,O Q y3,O Q y4,J yo yn yc,O Q y6,ak y7] 67));have hw3:IntKind.i64.wrap ((k:Int)+1)=(k:Int)+1:=IntWalk.i64_in _ (by omega);obtain⟨t,ht⟩:∃ r,fG e.p p'=r:=⟨_,rfl⟩;have HV:=D (show cE p' e=(y7 && t) by unfold cE; rw [<- hin.2.2.2.1,ht]);have HE:=D he;have BF:=D (BE.out.trans (NB.out.mono BE.out.size));have CV:=D (wC (J yo yn yc) (J pa pn pc) e.p p' _ (hin.2.2.2.2.on BF.out) (HP.out.on BF.out) (OK.out _ (ay he)) OP.out);rw [ht] at CV;clear px hy ht he hin;cases y7
   ·clear CV;go_wp2
    go_roundw
    case rel=>exact⟨k+1,by omega,by go_num,BF.out,fun j y' hj h1=>by
     rcases bG j k with h3|h3
     ·exact AL.out j y' h3 h1
     ·obtain rfl:j=k:=by omega
      have e1:=HE.out;rw [h1] at e1;rw [aO e1];exact HV.out.trans (by simp)⟩
    case measure=>simp [intOf]; omega
   ·go_wp2_with fail;refine CV.out.mono ?_;rintro e3 w3 ⟨rfl,hb⟩;have BG:=D (BF.out.trans (hb.mono BF.out.size));clear CV hb p0 p1 p2 p3 p4 p5 p6 ix;cases t
    ·go_wp2
     go_roundw
     case rel=>exact⟨k+1,by omega,by go_num,BG.out,fun j y' hj h1=>by
      rcases bG j k with h3|h3
      ·exact AL.out j y' h3 h1
      ·obtain rfl:j=k:=by omega
       have e1:=HE.out;rw [h1] at e1;rw [aO e1];exact HV.out.trans (by simp)⟩
     case measure=>simp [intOf]; omega
    ·have hd:xX m p'=aP:=Ur (cE p') HE.out (HV.out.trans (by simp));go_wp2;go_ret;exact⟨by rw [hd]; rfl,BG.out⟩
  ·obtain rfl:k=n:=by omega
   have hd:xX m p'=aA:=Uq (cE p') fun j y hj h=>AL.out j y (by rw [<- HN.out,HU.out.len]; exact hj) h;go_wp2;go_ret;exact⟨by rw [hd]; rfl,BE.out⟩
theorem MP {W:aF} {v:Sl} {l:List jl} {m:List En} (hv:mP W (dQ v) l) (hA:eT (kP W) l m) (t:dV):mP W (dQ (cutV v (gL m t) (kK m t).length)) ((l.drop (gL m t)).take (kK m t).length)/\eT (kP W) ((l.drop (gL m t)).take (kK m t).length) (kK m t):=by
 refine⟨(Au hv _ _ (by rw [hA.len]; exact qd m t)).2,?_⟩;have h:=(hA.drop (gL m t)).take (kK m t).length;have e:(m.drop (gL m t)).take (kK m t).length=kK m t:=by
  unfold kK
  conv=>lhs; arg 2; rw [<- List.takeWhile_append_dropWhile (p:=fun e:En=>decide (e.tree=t)) (l:=m.drop (gL m t))]
  rw [List.take_left]
 rw [e] at h;exact h
theorem MR (m:List En) (t:dV):∀ e∈kK m t,e∈m:=fun _ he=>List.mem_of_mem_drop ((List.takeWhile_sublist _).subset he)
theorem MS (me:Int) (nv av sv ov:bg) (ev:Sl) (l:List jl) (m:List En) (t:dV) (pv:bg) (p':List C5) (w:aF) (hs:mP w (dQ ev) l) (hu:eT (kP w) l m) (hr:gK m) (hl:l.length<=1000) (hp:fF w pv p') (hok:∀ e∈m,dN e.p) (hop:dN p') :
  bF aI 156 #[bH #[O Q me,nv,av,sv,dQ ev,ov],oK t,pv] w fun e w'=>e=aR (ak (eP m t p'))/\Below w.heap.size w w':=by
 obtain⟨pa,pc,rfl⟩:=hp.len;obtain⟨so,n,sc⟩:=ev;obtain⟨c,d⟩:=t;obtain⟨h0,X,Y⟩:=jd w #[O Q me,nv,av,sv,J so n sc,ov] #[O Q c,O Q d] 30 23;have B:=D h0;have x4:=X.cell 4;obtain⟨y0,y1⟩:=Y.cs2;simp only [ah,U,Z] at x4;have BR:=D (qQ (so,n,sc) l m (c,d) _ (hs.on h0) (hu.mono fun _ _ q=>q.on h0) hr hl);obtain⟨q1,q2⟩:=MP (hs.on h0) (hu.mono fun _ _ q=>q.on h0) (c,d);have Q1:=D q1;have Q2:=D q2;have HP:=D (hp.on h0);have OK:=D (fun e he=>hok e (MR m (c,d) e he));have CB:=D (Uk hr (c,d) p');generalize p'.length=pn at *;generalize eP m (c,d) p'=r at *;generalize cutV (so,n,sc) (gL m (c,d)) (kK m (c,d)).length=z at *;obtain⟨z1,z2,z3⟩:=z;clear h0 X Y hs hu hr hl hp hok q1 q2;go_enter Tryz.func156,Tryz.ntmps156;go_wp2_with fail;generalize (w.alloc (aD #[O Q me,nv,av,sv,J so n sc,ov] 30)).alloc (aD #[O Q c,O Q d] 23)=W at *;refine BR.out.mono ?_;rintro e1 w1 ⟨rfl,hb⟩;have HB:=D hb;have CV:=D (uf (z1,z2,z3) (J pa pn pc) _ (kK m (c,d)) p' w1 (Q1.out.on hb) (Q2.out.mono fun _ _ q=>q.on hb) (HP.out.on hb) OK.out hop);clear x4 y0 y1 hb BR;go_wp2_with fail;refine CV.out.mono ?_;rintro e2 w2 ⟨rfl,hb2⟩;go_wp2;go_ret;exact⟨by rw [<- CB.out]; rfl,B.out.trans ((HB.out.trans (hb2.mono HB.out.size)).mono B.out.size)⟩
def zk (m:List En) (t s:dV):Option En:=match m[dY (m.map dM) (t,s)]? with
 | none=>aj
 | some e=>if dM e=(t,s) then aJ e else aj
theorem qh {m:List En} {t s:dV} (h:iF m t s=aP):∃ e,m[dY (m.map dM) (t,s)]?=aJ e/\dM e=(t,s)/\zk m t s=aJ e:=by
 unfold iF at h;cases hm:m[dY (m.map dM) (t,s)]? with
 | none=>rw [hm] at h; cases h
 | some e =>
  rw [hm] at h;have hk:=of_decide_eq_true h;exact⟨e,rfl,hk,by unfold zk; rw [hm]; simp only; rw [if_pos hk]⟩
theorem Di {m:List En} {t s:dV} (h:iF m t s=aA):zk m t s=aj:=by
 unfold iF at h;unfold zk;cases hm:m[dY (m.map dM) (t,s)]? with
 | none=>rfl
 | some e =>
  rw [hm] at h;simp only;rw [if_neg (of_decide_eq_false h)]
theorem zm {w w':aF} {row:Option Nat} (h:w.grownBy w' row):Off row w w':=⟨h.block,h.size⟩
theorem MU {wr w0:aF} {B:Nat} {v:bg} {lu:List jl} {mu:List En} (x:jl) (e:En) (o:jM wr B v lu) (hA:eT (nO w0 B wr) lu mu) (hx:nO w0 B wr x e) (hn:lu.length<=1000) (hB:B<=wr.heap.size) :
  ∃ v' w',(Builtin.append_ #[27,27] 27 #[v,J (aJ ⟨wr.heap.size,0,aj⟩) 1 1]).run aI (wr.alloc (aD (iU x).toArray 67))=.ok v' w'/\jM w' B v' (lu++[x])/\eT (nO w0 B w') (lu++[x]) (mu++[e]) /\
   (∀ B' W,B'<=B->Below B' W wr->Below B' W w')/\Off v.ownBlock (wr.alloc (aD (iU x).toArray 67)) w':=by
 have NB:=jk wr (aD (iU x).toArray 67);have hlit:=nQ lY wr [x] 1 rfl (by simp) (iU x).toArray rfl;have o2:jM _ B v lu:=aH o NB;have hB2:B<=(wr.alloc (aD (iU x).toArray 67)).heap.size:=aK hB NB.size;obtain⟨v',w',r',o',gr⟩:=kr lY B o2 (Row.dH hlit) hn (by simp) hB2 27;refine⟨v',w',by simpa [EN] using r',o',?_,fun B' W hB' hb=>?_,zm gr⟩
 ·have hf:=zm gr;have hg:=gV o2;have g:∀ y z,nO w0 B wr y z->nO w0 B w' y z:=fun y z q=>(q.grow NB).off hf hg (by decide);exact (hA.mono g).append (.cons (g _ _ hx) .nil)
 ·exact (hb.trans (NB.mono (by have:=hb.size; omega))).grown gr (aK hB' hB2) fun j hj=>aK hB' (o2.lt j hj).1
theorem tu {w0 wr:aF} {B:Nat} {x:jl} {e:En} (h:nO w0 B wr x e) (hl:Below w0.heap.size w0 wr):kP wr x e:=⟨h.1,h.2.1,h.2.2.1,h.2.2.2.1,h.2.2.2.2.row hl⟩
theorem vT (me:Int) (nv av sv ov:bg) (ev:Sl) (l:List jl) (m:List En) (t:dV) (w:aF) (hs:mP w (dQ ev) l) (hu:eT (kP w) l m) (hr:gK m) (hl:l.length<=900) (hf:∀ e∈m,e.p.length<=900) :
  bF aI 26 #[bH #[O Q me,nv,av,sv,dQ ev,ov],oK t] w fun e w'=>(∃ (v':Sl) (lu:List jl),e=aR (dQ v')/\mP w' (dQ v') lu/\eT (kP w') lu (kK m t))/\Below w.heap.size w w':=by
 obtain⟨so,n,sc⟩:=ev;obtain⟨c,d⟩:=t;obtain⟨h0,X,Y⟩:=jd w #[O Q me,nv,av,sv,J so n sc,ov] #[O Q c,O Q d] 30 23;have B:=D h0;have x4:=X.cell 4;obtain⟨y0,y1⟩:=Y.cs2;simp only [ah,U,Z] at x4;have BR:=D (qQ (so,n,sc) l m (c,d) _ (hs.on h0) (hu.mono fun _ _ q=>q.on h0) hr (by omega));obtain⟨q1,q2⟩:=MP (hs.on h0) (hu.mono fun _ _ q=>q.on h0) (c,d);have hbl:(kK m (c,d)).length<=900:=by have:=qd m (c,d); have:=hu.len; omega
 have HF:=D (fun e he=>hf e (MR m (c,d) e he));generalize (l.drop (gL m (c,d))).take (kK m (c,d)).length=lb at *;generalize cutV (so,n,sc) (gL m (c,d)) (kK m (c,d)).length=z at *;obtain⟨z1,z2,z3⟩:=z;generalize kK m (c,d)=mb at *;have hn:lb.length=z2:=gZ q1;have HN:=D hn;have hz:z2<=900:=by have:=q2.len; omega
 have Q1:=D q1;have Q2:=D q2;clear h0 X Y hs hu hr hl hf q1 q2 hn hbl;go_enter Tryz.func26,Tryz.ntmps26;go_wp2_with fail;generalize (w.alloc (aD #[O Q me,nv,av,sv,J so n sc,ov] 30)).alloc (aD #[O Q c,O Q d] 23)=W at *;refine BR.out.mono ?_;rintro e1 w1 ⟨rfl,hb⟩;have HB:=D hb;have R1:=D (Q1.out.on hb);have R2:=D (Q2.out.mono fun _ _ q=>q.on hb);clear x4 y0 y1 BR hb Q1 Q2;go_wp2
 go_loopw [5,13] (fun v i wr=>∃ (k:Nat) (lu:List jl),k<=z2/\i=O Q k/\Below w1.heap.size w1 wr/\jM wr w1.heap.size v lu/\eT (nO w1 w1.heap.size wr) lu (mb.take k)) (fun _ i _=>z2-(intOf i).toNat)
 case atStart=>exact⟨0,[],bC _,rfl,aG _ _,iP _ _,by simpa using eT.nil⟩
 case round =>
  obtain⟨k,lu,hk,rfl,hbe,hown,hall⟩:=hrel;have BE:=D hbe;have OE:=D hown;have AE:=D hall;clear hbe hown hall;by_cases hlt:k<z2
  ·obtain⟨y,hy⟩:∃ y,lb[k]?=aJ y:=⟨_,aC (by rw [HN.out]; exact hlt)⟩;obtain⟨q,ix,px⟩:=TT R1.out rfl HN.out hy;obtain⟨p0,p1,p2,p3,p4,p5,p6⟩:=px wr BE.out;obtain⟨e,he,_,hin⟩:=jA R2.out hy;obtain⟨y1,y2,y3,y4,⟨yo,yn,yc⟩,y6,y7⟩:=y;simp only at p0 p1 p2 p3 p4 p5 p6;have NB:=D (jk wr (aD #[O Q y1,O Q y2,O Q y3,O Q y4,J yo yn yc,O Q y6,ak y7] 67));have BF:=D (BE.out.trans (NB.out.mono BE.out.size));have hx:=dO wr #[O Q y1,O Q y2,O Q y3,O Q y4,J yo yn yc,O Q y6,ak y7] 67;obtain⟨v0,v1,v2,v3,v4,v5,v6⟩:=hx.xM;have hw3:IntKind.i64.wrap ((k:Int)+1)=(k:Int)+1:=IntWalk.i64_in _ (by omega);have CP:=D (uR (y1,y2,y3,y4,(yo,yn,yc),y6,y7) e.p _ (hin.2.2.2.2.on BF.out) (HF.out e (ay he)));have HI:=D hin;have HE:=D he;clear px hy he hin hx;go_wp2_with fail;refine CP.out.mono ?_;rintro e3 w3 ⟨⟨⟨u1,u2,u3⟩,rfl,ho⟩,hb⟩;have BG:=BF.out.trans (hb.mono BF.out.size);have hl:lu.length=k:=by rw [AE.out.len,aV]; have:=HN.out; have:=R2.out.len; omega
   obtain⟨v',w',r',o',a',bl,_⟩:=MU (w0:=w1) (y1,y2,y3,y4,(u1,u2,u3),y6,y7) e (aH (aH OE.out NB.out) hb) (AE.out.mono fun _ _ q=>(q.grow NB.out).grow hb) ⟨HI.out.1,HI.out.2.1,HI.out.2.2.1,HI.out.2.2.2.1,aY (dK ho BF.out.size)⟩ (by omega) (by have:=BG.size; omega);have O2:=D o';have A2:=D a';have B2:=D (bl _ w1 (aU _) BG);have E2:=D (show mb.take (k+1)=mb.take k++[e] from List.take_succ_eq_append_getElem (aB.1 HE.out).1 ▸ by rw [(aB.1 HE.out).2]);clear CP hb ho BG hl o' a' bl v0 v1 v2 v3 v4 v5 v6 p0 p1 p2 p3 p4 p5 p6 ix NB BF;go_wp2_with (first | (at_builtin; refine wpList_append_run rfl _ _ 27 rfl rfl rfl r' ?_) | fail)
   go_roundw
   case rel=>exact⟨k+1,_,by omega,by go_num,B2.out,O2.out,by rw [E2.out]; exact A2.out⟩
   case measure=>simp [intOf]; omega
  ·obtain rfl:z2=k:=by omega
   have e:mb.take z2=mb:=List.take_of_length_le (by have:=HN.out; have:=R2.out.len; omega);rw [e] at AE;obtain⟨VE,VF,hv⟩:=(Row.dH OE.out).len;subst hv;clear e;go_wp2;go_ret;exact⟨⟨(VE,_,VF),lu,rfl,Row.dH OE.out,AE.out.mono fun _ _ q=>tu q BE.out⟩,B.out.trans ((HB.out.trans (BE.out.mono HB.out.size)).mono B.out.size)⟩
theorem fT {p:List C5} (h:dN p):p.length<=900:=by
 obtain⟨a,na,rfl⟩:=h;rw [List.length_map];have:=na.five;omega
theorem Qw {α:Type} {E:Ek α} {ob:Option Nat} {W x:aF} {B g n cap:Nat} {l:List α} (h:Off ob W x) (ho:Own E W B (J (aJ ⟨g,0,aj⟩) n cap) l) (hne:aJ g≠ob):Own E x B (J (aJ ⟨g,0,aj⟩) n cap) l:=by
 refine⟨ho.1,?_⟩;rcases ho.2 with h2|⟨g',cap',cur,h1,h2,h3,h4⟩
 ·exact bD h2
 ·obtain⟨rfl,_⟩:g=g'/\True:=by simp at h1; exact⟨h1.1,trivial⟩
  exact aY ⟨g,cap',cur,h1,h2,by rw [h.1 g (lt_of_heap h3) hne]; exact h3,h4⟩
theorem Ju (g f k K C:Nat) (h:k<K) (w:aF):(Instr.indexAt 27 (J (aJ ⟨g,f * 7,aj⟩) K C) (O Q k)).run aI w=.ok (.pointer (aJ ⟨g,(f+k) * 7,aj⟩)) w:=by
 have h1:(Instr.indexAt 27 (J (aJ ⟨g,f * 7,aj⟩) K C) (O Q k)).run aI w=.ok (.pointer (aJ ((⟨g,f * 7,aj⟩:Addr).add (k * 7)))) w:=su lY ⟨g,f * 7,aj⟩ k K C h w;rw [h1];have e:(⟨g,f * 7,aj⟩:Addr).add (k * 7)=⟨g,(f+k) * 7,aj⟩:=by
  rw [Nat.add_mul];by_cases hk:k * 7=0
  ·rw [hk,add_zero,Nat.add_zero]
  ·rw [add_pos _ _ hk]
 rw [e]
theorem Qx {α:Type} {E:Ek α} {W:aF} {B g n cap:Nat} {l:List α} (h:Own E W B (J (aJ ⟨g,0,aj⟩) n cap) l):B<=g:=by
 rcases eZ h with⟨h1,_⟩|⟨g',cap',cur,h1,h2,_⟩
 ·cases h1
 ·obtain⟨rfl,_⟩:g=g'/\True:=by simp at h1; exact⟨h1.1,trivial⟩
  exact h2
theorem But.off {g:Nat} {ob:Option Nat} {w W x:aF} (h:But g w W) (ho:Off ob W x) (hb:∀ b,ob=aJ b->w.heap.size<=b):But g w x :=
 ⟨fun j hj hne=>(ho.1 j (aZ hj h.2) fun e=>by have:=hb j e.symm; omega).trans (h.1 j hj hne),aK h.2 ho.2⟩
theorem Az {α:Type} {E:Ek α} {W:aF} {B:Nat} {v:bg} {l:List α} (h:Own E W B v l):∀ b,v.ownBlock=aJ b->B<=b:=by
 intro b hb;rcases eZ h with⟨rfl,_⟩|⟨g',cap',cur,rfl,h2,_⟩
 ·cases hb
 ·obtain rfl:g'=b:=by simpa [Value.ownBlock] using hb
  exact h2
theorem AA {W:aF} {B g n cap f K:Nat} {l:List jl} (ho:jM W B (J (aJ ⟨g,0,aj⟩) n cap) l) (hK:f+K<=n) (h0:0<K):mP W (J (aJ ⟨g,f * 7,aj⟩) K (cap-f)) ((l.drop f).take K):=by
 have hl:l.length=n:=fu ho;have hnc:n<=cap:=by
  rcases eZ ho with⟨h1,_⟩|⟨g',cap',cur,h1,_,_,h4,_⟩
  ·cases h1
  ·obtain⟨_,_,rfl⟩:g=g'/\n=l.length/\cap=cap':=by simpa using h1
   rw [hl] at h4;exact h4
 have h:=(Au (v:=(aJ ⟨g,0,aj⟩,n,cap)) (Row.dH ho) f K (by omega)).2;unfold cutV at h;simp only at h;rw [if_neg (by omega),mD] at h;exact h
structure Ra (w0 w wr:aF) (B g n cap:Nat) (a c:List En) (s:List En×List En) (v:bg):Prop where
 row:∃ l,jM wr B (J (aJ ⟨g,0,aj⟩) n cap) l/\eT (nO w0 B wr) l (a++s.1++c)
 up:∃ lu,jM wr w.heap.size v lu/\eT (nO w0 w.heap.size wr) lu s.2
 but:But g w wr
 low:∀ B' W,B'<=g->Below B' W w->Below B' W wr
theorem Jv (w0:aF) (B g n cap f K:Nat) (ra:Option Addr) (rc:Nat) (l:List jl) (m:List En) (w:aF) (hw0:Below w0.heap.size w0 w) (hB0:w0.heap.size<=B) (ho:jM w B (J (aJ ⟨g,0,aj⟩) n cap) l) (hA:eT (nO w0 B w) l m) (hfK:f+K<=n) (hn:n<=900)
  (hra:0<K->ra=aJ ⟨g,f * 7,aj⟩/\rc=cap-f) (hok:∀ e∈m,dN e.p) :
  bF aI 159 #[J ra K rc] w fun e w'=>∃ v':Sl,e=aR (dQ v')/\Ra w0 w w' B g n cap (m.take f) (m.drop (f+K)) (fQ ((m.drop f).take K) K) (dQ v'):=by
 obtain⟨a,ha⟩:∃ a,m.take f=a:=⟨_,rfl⟩;obtain⟨r,hr⟩:∃ r,(m.drop f).take K=r:=⟨_,rfl⟩;obtain⟨c,hc⟩:∃ c,m.drop (f+K)=c:=⟨_,rfl⟩;have hmn:m.length=n:=by rw [<- hA.len]; exact fu ho
 have hm:m=a++r++c:=by
  rw [<- ha,<- hr,<- hc,au,show m.drop (f+K)=(m.drop f).drop K by rw [List.drop_drop],aX,aX]
 have hal:a.length=f:=by rw [<- ha,aV]; omega
 have hrl:r.length=K:=by rw [<- hr,aV,List.length_drop]; omega
 have hrr:∀ k,(fQ r k).1.length=K:=fun k=>by rw [qN,hrl]
 have hokr:∀ k,∀ e∈(fQ r k).1,dN e.p:=fun k=>by
  induction k with
  | zero=>intro e he; exact hok e (by rw [hm]; exact List.mem_append_left _ (List.mem_append_right _ he))
  | succ k ih =>
   rw [kH];unfold jK
   split
   ·exact ih
   ·rename_i e0 he0
    split
    ·exact ih
    ·intro e he;rcases List.mem_or_eq_of_mem_set he with h1|h1
     ·exact ih e h1
     ·rw [h1]; exact ih e0 (ay he0)
 rw [ha,hr,hc];have hgw:g<w.heap.size:=by
  obtain⟨cur,hg⟩:=iD ho;exact hg.lt
 have hBg:B<=g:=Qx ho;have R0:Ra w0 w w B g n cap a c (fQ r 0) (J aj 0 0):=⟨⟨l,ho,by rw [show a++(fQ r 0).1++c=m from hm.symm]; exact hA⟩,⟨[],iP _ _,.nil⟩,But.of_below (aG _ _),fun _ _ _ h=>h⟩;have W0:=D hw0;have OKR:=D hokr;have RR:=D hrr;have RA:=D hra;have RL:=D hrl;have Us:=D hal;have R0:=D R0;have HB:=D (show w0.heap.size<=g from by omega);clear hw0 ho hA hra hok hm ha hr hc hmn hokr hrr l m hrl hal;go_enter Tryz.func159,Tryz.ntmps159;go_wp2
 go_loopw [3,7] (fun v i wr=>∃ k:Nat,k<=K/\i=O Q k/\Ra w0 w wr B g n cap a c (fQ r k) v) (fun _ i _=>K-(intOf i).toNat)
 case atStart=>exact⟨0,bC _,rfl,R0.out⟩
 case round =>
  obtain⟨k,hk,rfl,WI⟩:=hrel;have RX:=D WI;have hwr:Below w0.heap.size w0 wr:=WI.low _ _ HB.out W0.out;have WR:=D hwr;clear WI hwr R0;by_cases hlt:k<K
  ·obtain⟨aan,aao⟩:=RA.out (by omega);subst aan;subst aao;obtain⟨L,hL,VG⟩:=RX.out.row;have hRk:=RR.out k;obtain⟨s,hs⟩:∃ s,fQ r k=s:=⟨_,rfl⟩;have RS:=D (kH r k);have WJ:=D (OKR.out k);rw [hs] at VG hRk RX RS WJ;obtain⟨r',us⟩:=s;simp only at VG hRk WJ;obtain⟨e,he⟩:∃ e,r'[k]?=aJ e:=⟨_,aC (by omega)⟩;have hM:(a++r'++c)[f+k]?=aJ e:=by
    rw [au,aS (by rw [Us.out]; omega),Us.out,aN,aT (by omega)];exact he
   obtain⟨y,hy,hx⟩:=VG.at (f+k) e hM;have ix:=Ju g f k K (cap-f) hlt;have cc:=je lY hL hy wr (aG _ _);obtain⟨cur,hbx⟩:=iD hL;have fr:=hbx.fr ((f+k) * 7+6);have zl:=hbx.lt;obtain⟨y1,y2,y3,y4,⟨yo,yn,yc⟩,y6,y7⟩:=y;have c0:=cc 0 _ rfl;have c1:=cc 1 _ rfl;have c2:=cc 2 _ rfl;have c3:=cc 3 _ rfl;have c4:=cc 4 _ rfl;have c5:=cc 5 _ rfl;have c6:=cc 6 _ rfl;simp [Addr.add,EN] at c0 c1 c2 c3 c4 c5 c6;have CUT:=AA (f:=f) (K:=K) hL hfK (by omega);have CUA:eT (kP wr) ((L.drop f).take K) r':=by
    have h:=((VG.drop f).take K).mono fun _ _ q=>tu q WR.out;rw [au,List.drop_left' Us.out,List.take_left' hRk] at h;exact h
   obtain⟨t,ht⟩:∃ t,xX r' e.p=t:=⟨_,rfl⟩;have CV:=D (uf (aJ ⟨g,f * 7,aj⟩,K,cap-f) (J yo yn yc) _ r' e.p wr CUT CUA (tu hx WR.out).2.2.2.2 WJ.out (WJ.out e (ay he)));rw [ht] at CV;have HX:=D hx;have HL:=D hL;have HLA:=D VG;have HY:=D hy;have HM:=D hM;have RE:=D (show fQ r (k+1)=if y7=aP\/t=aP then (r',us) else (r'.set k (sP e),us++[sP e]) by
    rw [RS.out];unfold jK;simp only [he];rw [ht,<- hx.2.2.2.1])
   have hw3:IntKind.i64.wrap ((k:Int)+1)=(k:Int)+1:=IntWalk.i64_in _ (by omega);have SS:=D hs;have RK:=D hRk;clear cc hbx CUT CUA ht hx hL VG hy hM he RS hs hRk;cases y7
   ·go_wp2_with fail;refine CV.out.mono ?_;rintro e3 w3 ⟨rfl,hb⟩;clear CV;cases t
    ·have d6:=(hb.cell (p:=⟨g,(f+k) * 7+6,aj⟩) zl).trans c6;have f6:w3.frozen? ⟨g,(f+k) * 7+6,aj⟩=aA:=(hb.frozen (p:=⟨g,(f+k) * 7+6,aj⟩) zl).trans fr;have z3:g<w3.heap.size:=aZ zl hb.size;obtain⟨lu,hu1,hu2⟩:=RX.out.up;obtain⟨o4,_,_⟩:=Qm (aH HL.out hb) HY.out;have bt:=dR w3 g ((f+k) * 7+6) (ak aP);obtain⟨adj,hg3⟩:=iD (aH HL.out hb);have G1:∀ x z,nO w0 B wr x z->nO w0 B (w3.setCell ⟨g,(f+k) * 7+6,aj⟩ (ak aP)) x z:=fun x z q=>(q.grow hb).but bt hg3 (by decide);have G2:∀ x z,nO w0 w.heap.size wr x z->nO w0 w.heap.size (w3.setCell ⟨g,(f+k) * 7+6,aj⟩ (ak aP)) x z:=fun x z q=>(q.grow hb).but bt hg3 (by decide);have O4:=D o4;have A4:=D (eT.set2 (f+k) (HLA.out.mono G1) (show nO w0 B (w3.setCell ⟨g,(f+k) * 7+6,aj⟩ (ak aP)) (y1,y2,y3,y4,(yo,yn,yc),y6,aP) (sP e) from ⟨(G1 _ _ HX.out).1,(G1 _ _ HX.out).2.1,(G1 _ _ HX.out).2.2.1,rfl,(G1 _ _ HX.out).2.2.2.2⟩));have U4:=D (eO (aH hu1 hb) g ((f+k) * 7+6) (ak aP) hgw);have V4:=D (hu2.mono G2);have B4:=D ((RX.out.but.trans (But.of_below hb)).trans bt);have L4:=D (show ∀ B' W,B'<=g->Below B' W w->Below B' W (w3.setCell ⟨g,(f+k) * 7+6,aj⟩ (ak aP)) from fun B' W h1 h2=>((RX.out.low B' W h1 h2).trans (hb.mono (by have:=zl; omega))).setCell (p:=⟨g,(f+k) * 7+6,aj⟩) h1 _);have HY4:=D (show (L.set (f+k) (y1,y2,y3,y4,(yo,yn,yc),y6,aP))[f+k]?=aJ (y1,y2,y3,y4,(yo,yn,yc),y6,aP) from aW (aB.1 HY.out).1);have US:=D (show lu.length<=1000 by
      have h1:lu.length=us.length:=hu2.len;have h2:=y9 r k;rw [SS.out] at h2;simp only at h2;omega)
     have PO:=D (fT (WJ.out e (by
      have h:=HM.out;rw [au,aS (by rw [Us.out]; omega),Us.out,aN,aT (by rw [RK.out]; exact hlt)] at h;exact ay h)))
     have AS:=D (show (a++r'++c).set (f+k) (sP e)=a++r'.set k (sP e)++c by
      rw [au,List.set_append_right _ _ (by rw [Us.out]; omega),Us.out,aN,List.set_append_left _ _ (by rw [RK.out]; exact hlt),au])
     clear hu1 hu2 o4 bt hg3 G1 G2 c0 c1 c2 c3 c4 c5 c6 fr;go_upto_region 7 with fail;clear d6 f6 z3 hb;generalize w3.setCell ⟨g,(f+k) * 7+6,aj⟩ (ak aP)=w4 at *;have cc:=je lY O4.out HY4.out w4 (aG _ _);have c0:=cc 0 _ rfl;have c1:=cc 1 _ rfl;have c2:=cc 2 _ rfl;have c3:=cc 3 _ rfl;have c4:=cc 4 _ rfl;have c5:=cc 5 _ rfl;have c6:=cc 6 _ rfl;simp [Addr.add,EN] at c0 c1 c2 c3 c4 c5 c6;have X4:=D (show nO w0 B w4 (y1,y2,y3,y4,(yo,yn,yc),y6,aP) (sP e) from by
      obtain⟨y',h1,h2⟩:=A4.out.at (f+k) (sP e) (aW (aB.1 HM.out).1);rw [HY4.out] at h1;rw [aO h1];exact h2)
     have CP:=D (uR (y1,y2,y3,y4,(yo,yn,yc),y6,aP) e.p w4 (tu X4.out (L4.out _ _ HB.out W0.out)).2.2.2.2 PO.out);clear cc;go_wp2_with fail;refine CP.out.mono ?_;rintro e5 w5 ⟨⟨⟨u1,u2,u3⟩,rfl,ho⟩,hb⟩;have sz4:=B4.out.2;obtain⟨v',w',r7,o',a',bl,hof⟩:=MU (w0:=w0) (B:=w.heap.size) (y1,y2,y3,y4,(u1,u2,u3),y6,aP) (sP e) (aH U4.out hb) (V4.out.mono fun _ _ q=>q.grow hb) ⟨X4.out.1,X4.out.2.1,X4.out.2.2.1,X4.out.2.2.2.1,aY (dK ho sz4)⟩ US.out (by have:=hb.size; omega);have nb:=jk w5 (aD (iU (y1,y2,y3,y4,(u1,u2,u3),y6,aP)).toArray 67);have hbk:=Az U4.out;have WK:=D (show Ra w0 w w' B g n cap a c (fQ r (k+1)) v' from by
      rw [RE.out,if_neg (by simp)];have hg5:=iD (aH (aH O4.out hb) nb);refine⟨⟨_,Qw hof (aH (aH O4.out hb) nb) fun e=>?_,?_⟩,⟨_,o',a'⟩,But.off ((B4.out.trans (But.of_below hb)).trans (But.of_below nb)) hof hbk,fun B' W h1 h2=>bl B' W (by omega) ((L4.out B' W h1 h2).trans (hb.mono (by omega)))⟩
      ·have:=hbk g e.symm;omega
      ·rw [<- AS.out];have tg:=gV (aH (aH U4.out hb) nb);exact A4.out.mono fun _ _ q=>(((q.grow hb).grow nb).off hof tg (by decide)))
     clear CP hb ho o' a' bl hof nb hbk c0 c1 c2 c3 c4 c5 c6 ix sz4;go_wp2_with (first | (at_builtin; refine wpList_append_run rfl _ _ 27 rfl rfl rfl r7 ?_) | fail)
     go_roundw
     case rel=>exact⟨k+1,by omega,by go_num,WK.out⟩
     case measure=>simp [intOf]; omega
    ·have WK:=D (show Ra w0 w w3 B g n cap a c (fQ r (k+1)) _ from by
      rw [RE.out,if_pos (aY rfl)];obtain⟨q1,q2,q3,q4⟩:=RX.out;exact⟨by obtain⟨l,h1,h2⟩:=q1; exact⟨l,aH h1 hb,h2.mono fun _ _ q=>q.grow hb⟩,by obtain⟨l,h1,h2⟩:=q2; exact⟨l,aH h1 hb,h2.mono fun _ _ q=>q.grow hb⟩,q3.trans (But.of_below hb),fun B' W h1 h2=>(q4 B' W h1 h2).trans (hb.mono (by have:=zl; omega))⟩)
     clear hb c0 c1 c2 c3 c4 c5 c6 fr ix;go_wp2
     go_roundw
     case rel=>exact⟨k+1,by omega,by go_num,WK.out⟩
     case measure=>simp [intOf]; omega
   ·clear CV;have WK:=D (show Ra w0 w wr B g n cap a c (fQ r (k+1)) _ from by
     rw [RE.out,if_pos (bD rfl)];exact RX.out)
    go_wp2
    go_roundw
    case rel=>exact⟨k+1,by omega,by go_num,WK.out⟩
    case measure=>simp [intOf]; omega
  ·obtain rfl:K=k:=by omega
   obtain⟨lu,hu,_⟩:=RX.out.up;obtain⟨VE,VF,hv⟩:=(Row.dH hu).len;subst hv;clear hu;go_wp2;go_ret;exact⟨(VE,_,VF),rfl,RX.out⟩
theorem PM.less {w0 wr:aF} {B B':Nat} {v:bg} {p:List C5} (h:PM w0 B wr v p) (hB:B'<=B):PM w0 B' wr v p:=h.imp id fun h=>dK h hB
theorem Cp.less {w0 wr:aF} {B B':Nat} {b:Br} {nv av sv ev ov:Sl} (h:Cp w0 B wr b nv av sv ev ov) (hB:B'<=B):Cp w0 B' wr b nv av sv ev ov where
 near:=dK h.near hB
 seen:=dK h.seen hB
 dW:=by obtain⟨l,h1,h2⟩:=h.dW; exact⟨l,dK h1 hB,h2.mono fun _ _ q=>⟨q.1,q.2.1,PM.less q.2.2 hB⟩⟩
 ent:=by obtain⟨l,h1,h2⟩:=h.ent; exact⟨l,dK h1 hB,h2.mono fun _ _ q=>⟨q.1,q.2.1,q.2.2.1,q.2.2.2.1,PM.less q.2.2.2.2 hB⟩⟩
 own:=by obtain⟨l,h1,h2⟩:=h.own; exact⟨l,dK h1 hB,h2.mono fun _ _ q=>⟨q.1,PM.less q.2 hB⟩⟩
def x9 (b:Br) (e:En):Br×Bool:=match fM b.dW e.tree with
 | none=>(b,aA)
 | some a=>if iF b.ent e.tree e.sub=aP then (b,aA) else if e.from_=a.par/\a.par≠-1 then (b,aA) else
  ({ b with ent:=eY b.ent (dY (b.ent.map dM) (e.tree,e.sub)) { e with up:=!(a.par == -1) && !eP b.ent e.tree e.p } },!(a.par == -1) && !eP b.ent e.tree e.p)
theorem mJ {b:Br} (hr:gK b.ent) {e:En}:x9 b e=gY b e:=by
 unfold x9 gY;have ft:=oh hr e.tree e.sub;have ek:dM e=(e.tree,e.sub):=rfl;rw [ek,ft];by_cases h:fH (b.dW.map Ad.id) e.tree=-1
 ·have hn:fM b.dW e.tree=aj:=vR fun j a hj=>Jj (key:=Ad.id) h j a hj;rw [hn];cases b.dW[(fH (b.dW.map Ad.id) e.tree).toNat]? with
  | none=>rfl
  | some a=>simp only; rw [if_pos h]
 ·obtain⟨k,hk⟩:∃ k:Nat,fH (b.dW.map Ad.id) e.tree=k:=⟨(fH (b.dW.map Ad.id) e.tree).toNat,by have:=ru (b.dW.map Ad.id) e.tree; omega⟩;obtain⟨g1,g2⟩:=yT hk;rw [bf] at g1;cases ha:b.dW[k]? with
  | none=>rw [ha] at g1; cases g1
  | some a =>
   rw [ha] at g1;have hx:a.id=e.tree:=aO g1;have hf:fM b.dW e.tree=aJ a:=rE ha hx fun j z hj hz=>g2 j z.id hj (by rw [bf,hz]; rfl);rw [hf,hk,Int.toNat_natCast,ha];simp only;rw [if_neg (show ¬ ((k:Int)=-1) by omega)];have e1:(!(a.par == -1))=decide (a.par≠-1):=by by_cases hp:a.par=-1 <;> simp [hp]
   rw [e1];by_cases ht:iF b.ent e.tree e.sub=aP
   ·rw [if_pos ht,if_pos ht,if_pos (by omega)]
   ·rw [if_neg ht,if_neg ht,if_neg (show ¬ ((-1:Int)≠-1) by simp)];by_cases hp:e.from_=a.par/\a.par≠-1
    ·rw [if_pos hp,if_pos ⟨by rw [hp.1]; exact hp.2,hp.1⟩]
    ·rw [if_neg hp,if_neg fun q=>hp ⟨q.2,by rw [<- q.2]; exact q.1⟩]
def AJ (W:aF) (P R:Prop) (m:List En) (r:Br×Bool) (e:Ending) (w':aF):Prop:=(∃ nv av sv ev ov:Sl,e=aR (.tuple #[mg r.1.me nv av sv ev ov,ak r.2])/\ny w' r.1 nv av sv ev ov/\(P->jm w' nv r.1.near)/\(R\/r.2=aP->jo w' r.1 nv av sv ev ov)/\(r.1.ent=m\/∃ (V:aF) (B:Nat),W.heap.size<=B/\Cp (vw V) B w' r.1 nv av sv ev ov))/\Below W.heap.size W w'
theorem AJ.two {W:aF} {P R:Prop} {m:List En} {r:Br×Bool} {e:Ending} {w':aF} (h:AJ W P R m r e w'):rM W P R r e w':=by
 obtain⟨⟨a1,a2,a3,a4,a5,h1,h2,h3,h4,_⟩,h5⟩:=h;exact⟨⟨a1,a2,a3,a4,a5,h1,h2,h3,h4⟩,h5⟩
theorem Jw (b:Br) (e:En) (nv av sv ev ov:Sl) (x:jl) (w:aF) (h:ny w b nv av sv ev ov) (he:kP w x e) (hf:xR b) (hp:mq b) (hr:gK b.ent) (hok:∀ e∈b.ent,dN e.p) (hoe:dN e.p) :
  bF aI 114 #[mg b.me nv av sv ev ov,xP x] w (AJ w (jm w nv b.near) (jo w b nv av sv ev ov) b.ent (gY b e)):=by
 obtain⟨no,nn,nc⟩:=nv;obtain⟨ao,an,ac⟩:=av;obtain⟨so,sn,sc⟩:=sv;obtain⟨eo,en,ec⟩:=ev;obtain⟨oo,lK,oc⟩:=ov;obtain⟨y1,y2,y3,y4,⟨yo,yn,yc⟩,y6,y7⟩:=x;obtain⟨h0,h1,h2,h3⟩:=ji w #[O Q b.me,J no nn nc,J ao an ac,J so sn sc,J eo en ec,J oo lK oc] #[O Q y1,O Q y2,O Q y3,O Q y4,J yo yn yc,O Q y6,ak y7] #[O Q 0,J aj 0 0,J aj 0 0,J aj 0 0,J aj 0 0,J aj 0 0] 30 67 30;have BB:=D h0;have X1:=D h1;have X2:=D h2;have X3:=D h3;have HH:=D h;have EE:=D he;have HF:=D hf;have HP:=D hp;have HR:=D hr;have OK:=D hok;have OE:=D hoe;obtain⟨la,ha1,ha2⟩:=h.dW;have SW:=D (Cx b.me (J no nn nc) (J so sn sc) (J eo en ec) (J oo lK oc) (ao,an,ac) la b.dW (y1,y2) _ (ha1.on BB.out) (ha2.mono fun _ _ q=>q.on BB.out) hp.dW);have ET:=D (show e.tree=(y1,y2) from he.1.symm);have ES:=D (show e.sub=(y3,y4) from he.2.1.symm);have EF:=D (show e.from_=y6 from he.2.2.1.symm);obtain⟨x0,x1,x2,x3,x4,x5⟩:=X1.out.ig;obtain⟨d0,d1,d2,d3,d4,d5,d6⟩:=X2.out.xM;clear h0 h1 h2 h3 h he hf hp hr hok hoe ha1 ha2 la;go_enter Tryz.func114,Tryz.ntmps114;go_wp2_with fail;generalize ((w.alloc (aD #[O Q b.me,J no nn nc,J ao an ac,J so sn sc,J eo en ec,J oo lK oc] 30)).alloc (aD #[O Q y1,O Q y2,O Q y3,O Q y4,J yo yn yc,O Q y6,ak y7] 67)).alloc (aD #[O Q 0,J aj 0 0,J aj 0 0,J aj 0 0,J aj 0 0,J aj 0 0] 30)=W at *;refine SW.out.mono ?_;rintro e1 w1 ⟨hq,hb⟩;have B1:=D (BB.out.trans (hb.mono BB.out.size));have Z1:=D (X1.out.on hb);have Z2:=D (X2.out.on hb);have Z3:=D (X3.out.on hb);clear hb SW X1 X2 X3;clear x0 x1 x2 x3 x4 x5;clear d0 d1 d2 d3 d4 d5 d6;obtain⟨⟨r1,r2,⟨ro,rn,rc⟩,r4⟩,kn,rfl,hin⟩:∃ (r:jS) (kn:Bool),e1=aR (.tuple #[lJ r,ak kn])/\((kn=aA/\fM b.dW (y1,y2)=aj)\/(kn=aP/\∃ a,fM b.dW (y1,y2)=aJ a/\r.2.2.2=a.par)):=by
  cases hfa:fM b.dW (y1,y2) with
  | none =>
   rw [hfa] at hq;exact⟨_,aA,hq,bD ⟨rfl,rfl⟩⟩
  | some a =>
   rw [hfa] at hq;obtain⟨r,h1,h2⟩:=hq;exact⟨r,aP,h1,aY ⟨rfl,a,rfl,h2.2.1⟩⟩
 have HI:=D hin;have nb:=jk w1 (aD #[O Q r1,O Q r2,J ro rn rc,O Q r4] 36);have AB:=D (dO w1 #[O Q r1,O Q r2,J ro rn rc,O Q r4] 36);have B2:=D (B1.out.trans (nb.mono B1.out.size));have Y1:=D (Z1.out.on nb);have Y2:=D (Z2.out.on nb);have Y3:=D (Z3.out.on nb);obtain⟨Zn,hs1,hs2⟩:=HH.out.ent;have PL:=D (ze (eo,en,ec) Zn b.ent (y1,y2) (y3,y4) _ (hs1.on B2.out) (hs2.mono fun _ _ q=>q.on B2.out) HR.out (by rw [hs2.len]; have:=HF.out.ent; omega));have aap:=D hs1;have WL:=D hs2;obtain⟨k,hk⟩:∃ k,dY (b.ent.map dM) ((y1,y2),(y3,y4))=k:=⟨_,rfl⟩;obtain⟨th,hth⟩:∃ k,iF b.ent (y1,y2) (y3,y4)=k:=⟨_,rfl⟩;rw [hk,hth] at PL;have HK:=D hk;have TH:=D hth;have KL:=D (show k<=b.ent.length by rw [<- hk]; simpa using nC (b.ent.map dM) ((y1,y2),(y3,y4)));have x4:=Y1.out.cell 4;simp only [ah,U,Z] at x4;have d1:=Y2.out.cell 1;have d0:=Y2.out.cell 0;have d2:=Y2.out.cell 2;have d3:=Y2.out.cell 3;simp only [ah,U,Z] at d0 d1 d2 d3;clear hin hq nb hs1 hs2 hk hth Z1 Z2 Z3;go_wp2_with fail;generalize hw2:w1.alloc (aD #[O Q r1,O Q r2,J ro rn rc,O Q r4] 36)=w2 at *;refine PL.out.mono ?_;rintro e2 w3 ⟨rfl,hb⟩;have BW:=D (B2.out.trans (hb.mono B2.out.size));have T1:=D (Y1.out.on hb);have T2:=D (Y2.out.on hb);have T3:=D (Y3.out.on hb);have TA:=AB.out.on hb;clear x4;clear d0 d1 d2 d3;have a3:=TA.cell 3;have d5:=T2.out.cell 5;simp only [ah,U,Z] at a3 d5;obtain⟨fq,hfq⟩:∃ q,(y6 == r4)=q:=⟨_,rfl⟩;obtain⟨rt,hrt⟩:∃ q,(r4 == -1)=q:=⟨_,rfl⟩;have FQ:=D hfq;have RT:=D hrt;clear hb PL TA Y1 Y2 Y3 AB hw2;cases kn
 ·have LQ:=D (show gY b e=(b,aA) from by
   rw [<- mJ HR.out];unfold x9;have h0:fM b.dW e.tree=aj:=by
    rw [ET.out];rcases HI.out with⟨_,h⟩|⟨h,_⟩
    ·exact h
    ·cases h
   rw [h0])
  have Q1:=T1.out;have Q3:=T3.out;obtain⟨x0,x1,x2,x3,x4,x5⟩:=Q1.ig;obtain⟨z0,z1,z2,z3,z4,z5⟩:=Q3.ig;obtain⟨Ko,Kq,Kr,Kt,Ku,Kv⟩:=Q3.oJ;have Kw:=Q3.lt;have FB:=D (dX Q3 (O Q b.me) (J no nn nc) (J ao an ac) (J so sn sc) (J eo en ec) (J oo lK oc));have FL:=D (dI (b:=w.heap.size+1+1) BW.out (by omega) (O Q b.me) (J no nn nc) (J ao an ac) (J so sn sc) (J eo en ec) (J oo lK oc));clear Q1 Q3;go_wp2_with fail;clear z0 z1 z2 z3 z4 z5;obtain⟨v0,v1,v2,v3,v4,v5⟩:=FB.out.ig;refine aQ (v:=.tuple #[bH #[O Q b.me,J no nn nc,J ao an ac,J so sn sc,J eo en ec,J oo lK oc],ak aA]) (by simp [results,aM,go_sem,v0,v1,v2,v3,v4,v5]) rfl ?_;rw [LQ.out];exact⟨⟨(no,nn,nc),(ao,an,ac),(so,sn,sc),(eo,en,ec),(oo,lK,oc),rfl,HH.out.on FL.out,fun h=>h.on FL.out,fun h=>(h.resolve_right (by simp)).on FL.out,bD rfl⟩,FL.out⟩
 ·cases th
  ·cases rt
   ·cases fq
    ·have x1:=T2.out.cell 1;have x0:=T2.out.cell 0;have x2:=T2.out.cell 2;have x3:=T2.out.cell 3;have x4:=T2.out.cell 4;have x6:=T2.out.cell 6;simp only [ah,U,Z] at x0 x1 x2 x3 x4 x6;have PE:=D (show fF w3 (J yo yn yc) e.p from (EE.out.2.2.2.2).on BW.out);have S3X:=D (show w.heap.size<=w3.heap.size from BW.out.size);have CP:=D (uR (y1,y2,y3,y4,(yo,yn,yc),y6,y7) e.p w3 PE.out (fT OE.out));go_wp2_with fail;refine CP.out.mono ?_;rintro e4 Ut ⟨⟨⟨u1,u2,u3⟩,rfl,ho⟩,hb⟩;clear x0 x1 x2 x3 x4 x6;clear a3 d5;have V2:=T2.out.on hb;obtain⟨x0,x1,x2,x3,x4,x5,x6⟩:=V2.xM;obtain⟨xf0,xf1,Uu,Uv,Jy,Uw,Ux⟩:=V2.Zh;have xlt:=V2.lt;have bs:=CG Ut (w.heap.size+1) (O Q y1) (O Q y2) (O Q y3) (O Q y4) (J u1 u2 u3) (O Q y6) (ak y7);have E2:=D (vU V2 (O Q y1) (O Q y2) (O Q y3) (O Q y4) (J u1 u2 u3) (O Q y6) (ak y7));have E1:=D (bs.box (T1.out.on hb) (by omega));have E3:=D (bs.box (T3.out.on hb) (by omega));have EO:=D (bs.own ho V2 (by decide));have EL:=D (qL (b:=w.heap.size+1) (BW.out.trans (hb.mono BW.out.size)) (by omega) (O Q y1) (O Q y2) (O Q y3) (O Q y4) (J u1 u2 u3) (O Q y6) (ak y7));have Qy:=D (show w3.heap.size<=(CF Ut (w.heap.size+1) (O Q y1) (O Q y2) (O Q y3) (O Q y4) (J u1 u2 u3) (O Q y6) (ak y7)).heap.size by have:=hb.size; simp; omega);have L4:=D (show w.heap.size+1+1<w3.heap.size from T3.out.lt);clear V2 ho hb CP T1 T2 T3 BW bs;go_upto_region 7 with fail;clear x0 x1 x2 x3 x4 x5 x6 xf0 xf1 Uu Uv Jy Uw Ux xlt;unfold CF at E2 E1 E3 EO EL Qy;generalize (((((((Ut).setCell ⟨w.heap.size+1,0,aj⟩ (O Q y1)).setCell ⟨w.heap.size+1,1,aj⟩ (O Q y2)).setCell ⟨w.heap.size+1,2,aj⟩ (O Q y3)).setCell ⟨w.heap.size+1,3,aj⟩ (O Q y4)).setCell ⟨w.heap.size+1,4,aj⟩ (J u1 u2 u3)).setCell ⟨w.heap.size+1,5,aj⟩ (O Q y6)).setCell ⟨w.heap.size+1,6,aj⟩ (ak y7)=VH at *;have x1:=E2.out.cell 1;have x0:=E2.out.cell 0;have x4:=E2.out.cell 4;simp only [ah,U,Z] at x0 x1 x4;obtain⟨z0,z1,z2,z3,z4,z5⟩:=E1.out.ig;have CV:=D (MS b.me (J no nn nc) (J ao an ac) (J so sn sc) (J oo lK oc) (eo,en,ec) Zn b.ent (y1,y2) (J u1 u2 u3) e.p VH (aap.out.on EL.out) (WL.out.mono fun _ _ q=>q.on EL.out) HR.out (by rw [WL.out.len]; have:=HF.out.ent; omega) (Row.dH EO.out) OK.out OE.out);obtain⟨cv,hcv⟩:∃ c,eP b.ent (y1,y2) e.p=c:=⟨_,rfl⟩;rw [hcv] at CV;have CVQ:=D hcv;clear hcv;go_wp2_with fail;refine CV.out.mono ?_;rintro e5 Zo ⟨rfl,hb⟩;clear x0 x1 x4;clear z0 z1 z2 z3 z4 z5
     replace E2:=D (E2.out.on hb)
     replace E1:=D (E1.out.on hb)
     replace E3:=D (E3.out.on hb)
     replace EO:=D (aH EO.out hb)
     replace Qy:=D (aK Qy.out hb.size)
     replace EL:=D (EL.out.trans (hb.mono EL.out.size))
     clear CV hb;have x6:=E2.out.cell 6;have Ux:=E2.out.fr 6;have xlt:=E2.out.lt;simp only [ah,U,Z] at x6;have bs:=dR Zo (w.heap.size+1) 6 (ak (!cv));have T2:=D (show dG (Zo.setCell ⟨w.heap.size+1,6,aj⟩ (ak (!cv))) (w.heap.size+1) #[O Q y1,O Q y2,O Q y3,O Q y4,J u1 u2 u3,O Q y6,ak (!cv)] 67 by simpa using eu (k:=6) E2.out (ak (!cv)));have T1:=D (bs.box E1.out (by omega));have T3:=D (bs.box E3.out (by omega));have OC:=D (bs.own EO.out E2.out (by decide));have BW:=D (EL.out.setCell (p:=⟨w.heap.size+1,6,aj⟩) (by simp) (ak (!cv)));have WM:=D (show w3.heap.size<=(Zo.setCell ⟨w.heap.size+1,6,aj⟩ (ak (!cv))).heap.size by have:=Qy.out; simp; omega);clear bs E1 E2 E3 EO EL Qy;go_upto_region 8 with fail;clear x6 Ux xlt;generalize Zo.setCell ⟨w.heap.size+1,6,aj⟩ (ak (!cv))=w5 at *;have LQ:=D (show gY b e=({ b with ent:=eY b.ent k { e with up:=(!cv) } },(!cv)) from by
      rw [<- mJ HR.out];unfold x9;obtain⟨a,h0,h1⟩:∃ a,fM b.dW e.tree=aJ a/\r4=a.par:=by
       rw [ET.out];rcases HI.out with⟨h,_⟩|⟨_,h⟩
       ·cases h
       ·exact h
      rw [h0];simp only;rw [if_neg (by rw [ET.out,ES.out,TH.out]; simp),if_neg ?_,show dY (b.ent.map dM) (e.tree,e.sub)=k by rw [ET.out,ES.out]; exact HK.out,<- h1,RT.out]
      ·rw [ET.out,CVQ.out]
       rfl
      ·rintro⟨g,_⟩;rw [EF.out,<- h1] at g;have:=FQ.out;simp at this;exact this g)
     have Q1:=T1.out;obtain⟨x0,x1,x2,x3,x4,x5⟩:=Q1.ig;clear Q1;go_wp2_with fail;refine (lg b (no,nn,nc) (ao,an,ac) (so,sn,sc) (eo,en,ec) (oo,lK,oc) w w5 BW.out HH.out HF.out HP.out).mono ?_;rintro e6 w6 ⟨⟨⟨p1,q1,s1⟩,⟨p2,q2,s2⟩,⟨p3,q3,s3⟩,⟨p4,q4,s4⟩,⟨p5,q5,s5⟩,rfl,cp⟩,hb6⟩;clear x0 x1 x2 x3 x4 x5;have V1:=T1.out.on hb6;have V2:=D (T2.out.on hb6);have V3:=D (T3.out.on hb6);obtain⟨x0,x1,x2,x3,x4,x5⟩:=V1.ig;obtain⟨xf0,xf1,Uu,Uv,Jy,Uw⟩:=V1.oJ;have xlt:=V1.lt;have bs:=eF w6 w.heap.size (O Q b.me) (J p1 q1 s1) (J p2 q2 s2) (J p3 q3 s3) (J p4 q4 s4) (J p5 q5 s5);have FB:=D (dX V1 (O Q b.me) (J p1 q1 s1) (J p2 q2 s2) (J p3 q3 s3) (J p4 q4 s4) (J p5 q5 s5));have FC:=D (Sb.Cp.less (cp.but bs V1) (show w3.heap.size<=w5.heap.size from WM.out));have FO:=D (bs.own (aH OC.out hb6) V1 (by decide));have FL:=D (dI (b:=w.heap.size) (BW.out.trans (hb6.mono BW.out.size)) (aU _) (O Q b.me) (J p1 q1 s1) (J p2 q2 s2) (J p3 q3 s3) (J p4 q4 s4) (J p5 q5 s5));have F2:=D (bs.box V2.out (by omega));have F3:=D (bs.box V3.out (by omega));have SZ:=D (show w3.heap.size<=(iY w6 w.heap.size (O Q b.me) (J p1 q1 s1) (J p2 q2 s2) (J p3 q3 s3) (J p4 q4 s4) (J p5 q5 s5)).heap.size by have:=hb6.size; have:=WM.out; simp; omega);clear V1 V2 V3 cp hb6 bs T1 T2 T3 OC BW;go_upto_region 9 with fail;clear x0 x1 x2 x3 x4 x5 xf0 xf1 Uu Uv Jy Uw xlt;unfold iY at FB FC FL F2 F3 SZ FO;generalize ((((((w6).setCell ⟨w.heap.size,0,aj⟩ (O Q b.me)).setCell ⟨w.heap.size,1,aj⟩ (J p1 q1 s1)).setCell ⟨w.heap.size,2,aj⟩ (J p2 q2 s2)).setCell ⟨w.heap.size,3,aj⟩ (J p3 q3 s3)).setCell ⟨w.heap.size,4,aj⟩ (J p4 q4 s4)).setCell ⟨w.heap.size,5,aj⟩ (J p5 q5 s5)=w7 at *;obtain⟨le,hle1,hle2⟩:=FC.out.ent;have xL:=D hle1;have HL2:=D hle2;clear hle1 hle2;have nb:=jk w7 (aD #[O Q y1,O Q y2,O Q y3,O Q y4,J u1 u2 u3,O Q y6,ak (!cv)] 67);have bx:=dO w7 #[O Q y1,O Q y2,O Q y3,O Q y4,J u1 u2 u3,O Q y6,ak (!cv)] 67;have IN:=D (tZ w3.heap.size (J p4 q4 s4) le k (y1,y2,y3,y4,(u1,u2,u3),y6,(!cv)) w7.heap.size _ (aH xL.out nb) bx (fun e=>by
      obtain⟨d,hd⟩:=gV xL.out _ e;have:=hd.lt;omega) (by rw [HL2.out.len]; exact KL.out) (by rw [HL2.out.len]; exact HF.out.ent) (aK SZ.out nb.size))
     have WO:=D (FB.out.on nb);have Uy:=D (F2.out.on nb);have WQ:=D (F3.out.on nb);have WT:=D (aH FO.out nb);have WU:=D (FC.out.grow nb);have WV:=D (FL.out.trans (nb.mono FL.out.size));have HA2:=D (HL2.out.mono fun _ _ q=>q.grow nb);have MV:=D (gV (aH xL.out nb));have x4:=FB.out.cell 4;simp only [ah,U,Z] at x4;obtain⟨d0,d1,d2,d3,d4,d5,d6⟩:=F2.out.xM;clear nb bx;go_wp2_with fail;refine IN.out.mono ?_;rintro e8 w8 ⟨v8,rfl,hown,hbel,hoth⟩;clear x4;clear d0 d1 d2 d3 d4 d5 d6;generalize w7.alloc (aD #[O Q y1,O Q y2,O Q y3,O Q y4,J u1 u2 u3,O Q y6,ak (!cv)] 67)=w7a at *;obtain⟨t1,t2,hv8⟩:=(Row.dH hown).len;subst hv8;generalize (le.take k++(y1,y2,y3,y4,(u1,u2,u3),y6,(!cv))::le.drop k).length=tn at *;have hoff:Off (J p4 q4 s4).ownBlock w7a w8:=⟨hoth,hbel.size⟩;have CP:=D (WU.out.Qk (ev':=(t1,tn,t2)) (el:=eY b.ent k { e with up:=(!cv) }) hoff ⟨eY le k (y1,y2,y3,y4,(u1,u2,u3),y6,(!cv)),by unfold eY; rw [au]; exact hown,rG (HA2.out.mono fun _ _ q=>q.off hoff MV.out (by decide)) k ⟨EE.out.1,EE.out.2.1,EE.out.2.2.1,rfl,aY (hoff.own WT.out MV.out (by decide))⟩⟩);have G1:=hoff.box WO.out MV.out (by decide);have G3:=hoff.box WQ.out MV.out (by decide);have G2:=D (show dG w8 (w.heap.size+1) #[O Q y1,O Q y2,O Q y3,O Q y4,J u1 u2 u3,O Q y6,ak (!cv)] 67 from (hoth _ Uy.out.lt (fun e=>by
      have:=Az xL.out _ e.symm;have:=L4.out;omega)).trans Uy.out)
     have NC:=D (show dG (w8.setCell ⟨w.heap.size,4,aj⟩ (J t1 tn t2)) w.heap.size #[O Q b.me,J p1 q1 s1,J p2 q2 s2,J p3 q3 s3,J t1 tn t2,J p5 q5 s5] 30 by simpa using eu (k:=4) G1 (J t1 tn t2));have MC:=D (CP.out.but (dR w8 w.heap.size 4 (J t1 tn t2)) G1);have M3:=D ((dR w8 w.heap.size 4 (J t1 tn t2)).box G3 (by omega));have M2:=D ((dR w8 w.heap.size 4 (J t1 tn t2)).box G2.out (by omega));have ML:=D (show Below w.heap.size w (w8.setCell ⟨w.heap.size,4,aj⟩ (J t1 tn t2)) from (WV.out.trans (hbel.mono (by have:=L4.out; omega))).setCell (p:=⟨w.heap.size,4,aj⟩) (aU _) _);have x4:=G1.cell 4;have Jy:=G1.fr 4;have xlt:=G1.lt;simp only [ah,U,Z] at x4;clear hown hbel hoth hoff G1 G2 G3 CP FB WO FC WU FO WT F2 Uy F3 WQ FL WV xL HL2 HA2 MV IN SZ;go_upto_region 10 with fail;clear x4 Jy xlt;generalize w8.setCell ⟨w.heap.size,4,aj⟩ (J t1 tn t2)=w9 at *;have Q1:=NC.out;have Q2:=M2.out;have Q3:=M3.out;obtain⟨x0,x1,x2,x3,x4,x5⟩:=Q1.ig;have d6:=Q2.cell 6;simp only [ah,U,Z] at d6;obtain⟨z0,z1,z2,z3,z4,z5⟩:=Q3.ig;obtain⟨Ko,Kq,Kr,Kt,Ku,Kv⟩:=Q3.oJ;have Kw:=Q3.lt;have FB:=D ((dX Q3 (O Q b.me) (J p1 q1 s1) (J p2 q2 s2) (J p3 q3 s3) (J t1 tn t2) (J p5 q5 s5)).on (aG _ _).drew);have FC:=D ((MC.out.but (eF w9 (w.heap.size+1+1) (O Q b.me) (J p1 q1 s1) (J p2 q2 s2) (J p3 q3 s3) (J t1 tn t2) (J p5 q5 s5)) Q3).grow (aG _ _).drew);have FL:=D (dI (b:=w.heap.size+1+1) ML.out (by omega) (O Q b.me) (J p1 q1 s1) (J p2 q2 s2) (J p3 q3 s3) (J t1 tn t2) (J p5 q5 s5)).drew;clear Q1 Q2 Q3 NC MC M2 M3 ML;go_wp2
     go_region
     all_goals simp only [Exit.then]
     all_goals apply_assumption
     all_goals
      clear x0 x1 x2 x3 x4 x5;clear z0 z1 z2 z3 z4 z5 Ko Kq Kr Kt Ku Kv Kw;clear d6;unfold iY at FB FC FL;generalize (((((((w9).setCell ⟨w.heap.size+1+1,0,aj⟩ (O Q b.me)).setCell ⟨w.heap.size+1+1,1,aj⟩ (J p1 q1 s1)).setCell ⟨w.heap.size+1+1,2,aj⟩ (J p2 q2 s2)).setCell ⟨w.heap.size+1+1,3,aj⟩ (J p3 q3 s3)).setCell ⟨w.heap.size+1+1,4,aj⟩ (J t1 tn t2)).setCell ⟨w.heap.size+1+1,5,aj⟩ (J p5 q5 s5)).drew=wz at *;obtain⟨v0,v1,v2,v3,v4,v5⟩:=FB.out.ig;go_wp2;refine aQ (v:=.tuple #[bH #[O Q b.me,J p1 q1 s1,J p2 q2 s2,J p3 q3 s3,J t1 tn t2,J p5 q5 s5],ak (!cv)]) (by simp [results,aM,go_sem,v0,v1,v2,v3,v4,v5]) rfl ?_;rw [LQ.out];exact⟨⟨(p1,q1,s1),(p2,q2,s2),(p3,q3,s3),(t1,tn,t2),(p5,q5,s5),rfl,FC.out.Vz,fun _=>⟨_,FC.out.near⟩,fun _=>⟨_,_,FC.out⟩,aY ⟨_,_,S3X.out,FC.out⟩⟩,FL.out⟩
    ·have LQ:=D (show gY b e=(b,aA) from by
      rw [<- mJ HR.out];unfold x9;obtain⟨a,h0,h1⟩:∃ a,fM b.dW e.tree=aJ a/\r4=a.par:=by
       rw [ET.out];rcases HI.out with⟨h,_⟩|⟨_,h⟩
       ·cases h
       ·exact h
      rw [h0];simp only;rw [if_neg (by rw [ET.out,ES.out,TH.out]; simp),if_pos ?_];refine⟨?_,?_⟩
      ·rw [EF.out,<- h1];have:=FQ.out;simpa using this
      ·rw [<- h1];have:=RT.out;simpa using this)
     have Q1:=T1.out;have Q3:=T3.out;obtain⟨x0,x1,x2,x3,x4,x5⟩:=Q1.ig;obtain⟨z0,z1,z2,z3,z4,z5⟩:=Q3.ig;obtain⟨Ko,Kq,Kr,Kt,Ku,Kv⟩:=Q3.oJ;have Kw:=Q3.lt;have FB:=D (dX Q3 (O Q b.me) (J no nn nc) (J ao an ac) (J so sn sc) (J eo en ec) (J oo lK oc));have FL:=D (dI (b:=w.heap.size+1+1) BW.out (by omega) (O Q b.me) (J no nn nc) (J ao an ac) (J so sn sc) (J eo en ec) (J oo lK oc));clear Q1 Q3;go_wp2_with fail;clear z0 z1 z2 z3 z4 z5;obtain⟨v0,v1,v2,v3,v4,v5⟩:=FB.out.ig;refine aQ (v:=.tuple #[bH #[O Q b.me,J no nn nc,J ao an ac,J so sn sc,J eo en ec,J oo lK oc],ak aA]) (by simp [results,aM,go_sem,v0,v1,v2,v3,v4,v5]) rfl ?_;rw [LQ.out];exact⟨⟨(no,nn,nc),(ao,an,ac),(so,sn,sc),(eo,en,ec),(oo,lK,oc),rfl,HH.out.on FL.out,fun h=>h.on FL.out,fun h=>(h.resolve_right (by simp)).on FL.out,bD rfl⟩,FL.out⟩
   ·cases fq
    all_goals
     have x1:=T2.out.cell 1;have x0:=T2.out.cell 0;have x2:=T2.out.cell 2;have x3:=T2.out.cell 3;have x4:=T2.out.cell 4;have x6:=T2.out.cell 6;simp only [ah,U,Z] at x0 x1 x2 x3 x4 x6;have PE:=D (show fF w3 (J yo yn yc) e.p from (EE.out.2.2.2.2).on BW.out);have S3X:=D (show w.heap.size<=w3.heap.size from BW.out.size);have CP:=D (uR (y1,y2,y3,y4,(yo,yn,yc),y6,y7) e.p w3 PE.out (fT OE.out));go_wp2_with fail;refine CP.out.mono ?_;rintro e4 Ut ⟨⟨⟨u1,u2,u3⟩,rfl,ho⟩,hb⟩;clear x0 x1 x2 x3 x4 x6;clear a3 d5;have V2:=T2.out.on hb;obtain⟨x0,x1,x2,x3,x4,x5,x6⟩:=V2.xM;obtain⟨xf0,xf1,Uu,Uv,Jy,Uw,Ux⟩:=V2.Zh;have xlt:=V2.lt;have bs:=CG Ut (w.heap.size+1) (O Q y1) (O Q y2) (O Q y3) (O Q y4) (J u1 u2 u3) (O Q y6) (ak y7);have E2:=D (vU V2 (O Q y1) (O Q y2) (O Q y3) (O Q y4) (J u1 u2 u3) (O Q y6) (ak y7));have E1:=D (bs.box (T1.out.on hb) (by omega));have E3:=D (bs.box (T3.out.on hb) (by omega));have EO:=D (bs.own ho V2 (by decide));have EL:=D (qL (b:=w.heap.size+1) (BW.out.trans (hb.mono BW.out.size)) (by omega) (O Q y1) (O Q y2) (O Q y3) (O Q y4) (J u1 u2 u3) (O Q y6) (ak y7));have Qy:=D (show w3.heap.size<=(CF Ut (w.heap.size+1) (O Q y1) (O Q y2) (O Q y3) (O Q y4) (J u1 u2 u3) (O Q y6) (ak y7)).heap.size by have:=hb.size; simp; omega);have L4:=D (show w.heap.size+1+1<w3.heap.size from T3.out.lt);clear V2 ho hb CP T1 T2 T3 BW bs;go_upto_region 7 with fail;clear x0 x1 x2 x3 x4 x5 x6 xf0 xf1 Uu Uv Jy Uw Ux xlt;unfold CF at E2 E1 E3 EO EL Qy;generalize (((((((Ut).setCell ⟨w.heap.size+1,0,aj⟩ (O Q y1)).setCell ⟨w.heap.size+1,1,aj⟩ (O Q y2)).setCell ⟨w.heap.size+1,2,aj⟩ (O Q y3)).setCell ⟨w.heap.size+1,3,aj⟩ (O Q y4)).setCell ⟨w.heap.size+1,4,aj⟩ (J u1 u2 u3)).setCell ⟨w.heap.size+1,5,aj⟩ (O Q y6)).setCell ⟨w.heap.size+1,6,aj⟩ (ak y7)=VH at *;have x6:=E2.out.cell 6;have Ux:=E2.out.fr 6;have xlt:=E2.out.lt;simp only [ah,U,Z] at x6;have bs:=dR VH (w.heap.size+1) 6 (ak aA);have T2:=D (show dG (VH.setCell ⟨w.heap.size+1,6,aj⟩ (ak aA)) (w.heap.size+1) #[O Q y1,O Q y2,O Q y3,O Q y4,J u1 u2 u3,O Q y6,ak aA] 67 by simpa using eu (k:=6) E2.out (ak aA));have T1:=D (bs.box E1.out (by omega));have T3:=D (bs.box E3.out (by omega));have OC:=D (bs.own EO.out E2.out (by decide));have BW:=D (EL.out.setCell (p:=⟨w.heap.size+1,6,aj⟩) (by simp) (ak aA));have WM:=D (show w3.heap.size<=(VH.setCell ⟨w.heap.size+1,6,aj⟩ (ak aA)).heap.size by have:=Qy.out; simp; omega);clear bs E1 E2 E3 EO EL Qy;go_upto_region 8 with fail;clear x6 Ux xlt;generalize VH.setCell ⟨w.heap.size+1,6,aj⟩ (ak aA)=w5 at *;have LQ:=D (show gY b e=({ b with ent:=eY b.ent k { e with up:=aA } },aA) from by
      rw [<- mJ HR.out];unfold x9;obtain⟨a,h0,h1⟩:∃ a,fM b.dW e.tree=aJ a/\r4=a.par:=by
       rw [ET.out];rcases HI.out with⟨h,_⟩|⟨_,h⟩
       ·cases h
       ·exact h
      rw [h0];simp only;rw [if_neg (by rw [ET.out,ES.out,TH.out]; simp),if_neg ?_,show dY (b.ent.map dM) (e.tree,e.sub)=k by rw [ET.out,ES.out]; exact HK.out,<- h1,RT.out]
      ·rfl
      ·rintro⟨_,g⟩;rw [<- h1] at g;have:=RT.out;simp at this;exact g this)
     have Q1:=T1.out;obtain⟨x0,x1,x2,x3,x4,x5⟩:=Q1.ig;clear Q1;go_wp2_with fail;refine (lg b (no,nn,nc) (ao,an,ac) (so,sn,sc) (eo,en,ec) (oo,lK,oc) w w5 BW.out HH.out HF.out HP.out).mono ?_;rintro e6 w6 ⟨⟨⟨p1,q1,s1⟩,⟨p2,q2,s2⟩,⟨p3,q3,s3⟩,⟨p4,q4,s4⟩,⟨p5,q5,s5⟩,rfl,cp⟩,hb6⟩;clear x0 x1 x2 x3 x4 x5;have V1:=T1.out.on hb6;have V2:=D (T2.out.on hb6);have V3:=D (T3.out.on hb6);obtain⟨x0,x1,x2,x3,x4,x5⟩:=V1.ig;obtain⟨xf0,xf1,Uu,Uv,Jy,Uw⟩:=V1.oJ;have xlt:=V1.lt;have bs:=eF w6 w.heap.size (O Q b.me) (J p1 q1 s1) (J p2 q2 s2) (J p3 q3 s3) (J p4 q4 s4) (J p5 q5 s5);have FB:=D (dX V1 (O Q b.me) (J p1 q1 s1) (J p2 q2 s2) (J p3 q3 s3) (J p4 q4 s4) (J p5 q5 s5));have FC:=D (Sb.Cp.less (cp.but bs V1) (show w3.heap.size<=w5.heap.size from WM.out));have FO:=D (bs.own (aH OC.out hb6) V1 (by decide));have FL:=D (dI (b:=w.heap.size) (BW.out.trans (hb6.mono BW.out.size)) (aU _) (O Q b.me) (J p1 q1 s1) (J p2 q2 s2) (J p3 q3 s3) (J p4 q4 s4) (J p5 q5 s5));have F2:=D (bs.box V2.out (by omega));have F3:=D (bs.box V3.out (by omega));have SZ:=D (show w3.heap.size<=(iY w6 w.heap.size (O Q b.me) (J p1 q1 s1) (J p2 q2 s2) (J p3 q3 s3) (J p4 q4 s4) (J p5 q5 s5)).heap.size by have:=hb6.size; have:=WM.out; simp; omega);clear V1 V2 V3 cp hb6 bs T1 T2 T3 OC BW;go_upto_region 9 with fail;clear x0 x1 x2 x3 x4 x5 xf0 xf1 Uu Uv Jy Uw xlt;unfold iY at FB FC FL F2 F3 SZ FO;generalize ((((((w6).setCell ⟨w.heap.size,0,aj⟩ (O Q b.me)).setCell ⟨w.heap.size,1,aj⟩ (J p1 q1 s1)).setCell ⟨w.heap.size,2,aj⟩ (J p2 q2 s2)).setCell ⟨w.heap.size,3,aj⟩ (J p3 q3 s3)).setCell ⟨w.heap.size,4,aj⟩ (J p4 q4 s4)).setCell ⟨w.heap.size,5,aj⟩ (J p5 q5 s5)=w7 at *;obtain⟨le,hle1,hle2⟩:=FC.out.ent;have xL:=D hle1;have HL2:=D hle2;clear hle1 hle2;have nb:=jk w7 (aD #[O Q y1,O Q y2,O Q y3,O Q y4,J u1 u2 u3,O Q y6,ak aA] 67);have bx:=dO w7 #[O Q y1,O Q y2,O Q y3,O Q y4,J u1 u2 u3,O Q y6,ak aA] 67;have IN:=D (tZ w3.heap.size (J p4 q4 s4) le k (y1,y2,y3,y4,(u1,u2,u3),y6,aA) w7.heap.size _ (aH xL.out nb) bx (fun e=>by
      obtain⟨d,hd⟩:=gV xL.out _ e;have:=hd.lt;omega) (by rw [HL2.out.len]; exact KL.out) (by rw [HL2.out.len]; exact HF.out.ent) (aK SZ.out nb.size))
     have WO:=D (FB.out.on nb);have Uy:=D (F2.out.on nb);have WQ:=D (F3.out.on nb);have WT:=D (aH FO.out nb);have WU:=D (FC.out.grow nb);have WV:=D (FL.out.trans (nb.mono FL.out.size));have HA2:=D (HL2.out.mono fun _ _ q=>q.grow nb);have MV:=D (gV (aH xL.out nb));have x4:=FB.out.cell 4;simp only [ah,U,Z] at x4;obtain⟨d0,d1,d2,d3,d4,d5,d6⟩:=F2.out.xM;clear nb bx;go_wp2_with fail;refine IN.out.mono ?_;rintro e8 w8 ⟨v8,rfl,hown,hbel,hoth⟩;clear x4;clear d0 d1 d2 d3 d4 d5 d6;generalize w7.alloc (aD #[O Q y1,O Q y2,O Q y3,O Q y4,J u1 u2 u3,O Q y6,ak aA] 67)=w7a at *;obtain⟨t1,t2,hv8⟩:=(Row.dH hown).len;subst hv8;generalize (le.take k++(y1,y2,y3,y4,(u1,u2,u3),y6,aA)::le.drop k).length=tn at *;have hoff:Off (J p4 q4 s4).ownBlock w7a w8:=⟨hoth,hbel.size⟩;have CP:=D (WU.out.Qk (ev':=(t1,tn,t2)) (el:=eY b.ent k { e with up:=aA }) hoff ⟨eY le k (y1,y2,y3,y4,(u1,u2,u3),y6,aA),by unfold eY; rw [au]; exact hown,rG (HA2.out.mono fun _ _ q=>q.off hoff MV.out (by decide)) k ⟨EE.out.1,EE.out.2.1,EE.out.2.2.1,rfl,aY (hoff.own WT.out MV.out (by decide))⟩⟩);have G1:=hoff.box WO.out MV.out (by decide);have G3:=hoff.box WQ.out MV.out (by decide);have G2:=D (show dG w8 (w.heap.size+1) #[O Q y1,O Q y2,O Q y3,O Q y4,J u1 u2 u3,O Q y6,ak aA] 67 from (hoth _ Uy.out.lt (fun e=>by
      have:=Az xL.out _ e.symm;have:=L4.out;omega)).trans Uy.out)
     have NC:=D (show dG (w8.setCell ⟨w.heap.size,4,aj⟩ (J t1 tn t2)) w.heap.size #[O Q b.me,J p1 q1 s1,J p2 q2 s2,J p3 q3 s3,J t1 tn t2,J p5 q5 s5] 30 by simpa using eu (k:=4) G1 (J t1 tn t2));have MC:=D (CP.out.but (dR w8 w.heap.size 4 (J t1 tn t2)) G1);have M3:=D ((dR w8 w.heap.size 4 (J t1 tn t2)).box G3 (by omega));have M2:=D ((dR w8 w.heap.size 4 (J t1 tn t2)).box G2.out (by omega));have ML:=D (show Below w.heap.size w (w8.setCell ⟨w.heap.size,4,aj⟩ (J t1 tn t2)) from (WV.out.trans (hbel.mono (by have:=L4.out; omega))).setCell (p:=⟨w.heap.size,4,aj⟩) (aU _) _);have x4:=G1.cell 4;have Jy:=G1.fr 4;have xlt:=G1.lt;simp only [ah,U,Z] at x4;clear hown hbel hoth hoff G1 G2 G3 CP FB WO FC WU FO WT F2 Uy F3 WQ FL WV xL HL2 HA2 MV IN SZ;go_upto_region 10 with fail;clear x4 Jy xlt;generalize w8.setCell ⟨w.heap.size,4,aj⟩ (J t1 tn t2)=w9 at *;have Q1:=NC.out;have Q2:=M2.out;have Q3:=M3.out;obtain⟨x0,x1,x2,x3,x4,x5⟩:=Q1.ig;have d6:=Q2.cell 6;simp only [ah,U,Z] at d6;obtain⟨z0,z1,z2,z3,z4,z5⟩:=Q3.ig;obtain⟨Ko,Kq,Kr,Kt,Ku,Kv⟩:=Q3.oJ;have Kw:=Q3.lt;have FB:=D ((dX Q3 (O Q b.me) (J p1 q1 s1) (J p2 q2 s2) (J p3 q3 s3) (J t1 tn t2) (J p5 q5 s5)).on (aG _ _).drew);have FC:=D ((MC.out.but (eF w9 (w.heap.size+1+1) (O Q b.me) (J p1 q1 s1) (J p2 q2 s2) (J p3 q3 s3) (J t1 tn t2) (J p5 q5 s5)) Q3).grow (aG _ _).drew);have FL:=D (dI (b:=w.heap.size+1+1) ML.out (by omega) (O Q b.me) (J p1 q1 s1) (J p2 q2 s2) (J p3 q3 s3) (J t1 tn t2) (J p5 q5 s5)).drew;clear Q1 Q2 Q3 NC MC M2 M3 ML;go_wp2
     go_region
     all_goals simp only [Exit.then]
     all_goals apply_assumption
     all_goals
      clear x0 x1 x2 x3 x4 x5;clear z0 z1 z2 z3 z4 z5 Ko Kq Kr Kt Ku Kv Kw;clear d6;unfold iY at FB FC FL;generalize (((((((w9).setCell ⟨w.heap.size+1+1,0,aj⟩ (O Q b.me)).setCell ⟨w.heap.size+1+1,1,aj⟩ (J p1 q1 s1)).setCell ⟨w.heap.size+1+1,2,aj⟩ (J p2 q2 s2)).setCell ⟨w.heap.size+1+1,3,aj⟩ (J p3 q3 s3)).setCell ⟨w.heap.size+1+1,4,aj⟩ (J t1 tn t2)).setCell ⟨w.heap.size+1+1,5,aj⟩ (J p5 q5 s5)).drew=wz at *;obtain⟨v0,v1,v2,v3,v4,v5⟩:=FB.out.ig;go_wp2;refine aQ (v:=.tuple #[bH #[O Q b.me,J p1 q1 s1,J p2 q2 s2,J p3 q3 s3,J t1 tn t2,J p5 q5 s5],ak aA]) (by simp [results,aM,go_sem,v0,v1,v2,v3,v4,v5]) rfl ?_;rw [LQ.out];exact⟨⟨(p1,q1,s1),(p2,q2,s2),(p3,q3,s3),(t1,tn,t2),(p5,q5,s5),rfl,FC.out.Vz,fun _=>⟨_,FC.out.near⟩,fun _=>⟨_,_,FC.out⟩,aY ⟨_,_,S3X.out,FC.out⟩⟩,FL.out⟩
  ·have LQ:=D (show gY b e=(b,aA) from by
    rw [<- mJ HR.out];unfold x9;obtain⟨a,h0,h1⟩:∃ a,fM b.dW e.tree=aJ a/\r4=a.par:=by
     rw [ET.out];rcases HI.out with⟨h,_⟩|⟨_,h⟩
     ·cases h
     ·exact h
    rw [h0];simp only;rw [if_pos (by rw [ET.out,ES.out,TH.out])])
   have Q1:=T1.out;have Q3:=T3.out;obtain⟨x0,x1,x2,x3,x4,x5⟩:=Q1.ig;obtain⟨z0,z1,z2,z3,z4,z5⟩:=Q3.ig;obtain⟨Ko,Kq,Kr,Kt,Ku,Kv⟩:=Q3.oJ;have Kw:=Q3.lt;have FB:=D (dX Q3 (O Q b.me) (J no nn nc) (J ao an ac) (J so sn sc) (J eo en ec) (J oo lK oc));have FL:=D (dI (b:=w.heap.size+1+1) BW.out (by omega) (O Q b.me) (J no nn nc) (J ao an ac) (J so sn sc) (J eo en ec) (J oo lK oc));clear Q1 Q3;go_wp2_with fail;clear z0 z1 z2 z3 z4 z5;obtain⟨v0,v1,v2,v3,v4,v5⟩:=FB.out.ig;refine aQ (v:=.tuple #[bH #[O Q b.me,J no nn nc,J ao an ac,J so sn sc,J eo en ec,J oo lK oc],ak aA]) (by simp [results,aM,go_sem,v0,v1,v2,v3,v4,v5]) rfl ?_;rw [LQ.out];exact⟨⟨(no,nn,nc),(ao,an,ac),(so,sn,sc),(eo,en,ec),(oo,lK,oc),rfl,HH.out.on FL.out,fun h=>h.on FL.out,fun h=>(h.resolve_right (by simp)).on FL.out,bD rfl⟩,FL.out⟩
theorem MW (b:Br) (e:En) (nv av sv ev ov:Sl) (x:jl) (w:aF) (h:ny w b nv av sv ev ov) (he:kP w x e) (hf:xR b) (hp:mq b) (hr:gK b.ent) (hok:∀ e∈b.ent,dN e.p) (hoe:dN e.p) :
  bF aI 114 #[mg b.me nv av sv ev ov,xP x] w (rM w (jm w nv b.near) (jo w b nv av sv ev ov) (gY b e)) :=
 (Jw b e nv av sv ev ov x w h he hf hp hr hok hoe).mono fun _ _ h=>h.two
end Sb
namespace Bk
open Go.RowKit Go.Sort Rw YtghlpefopidlaaaGreat.Nm Pr
end Bk
end Go.Proofs.YtghlpefopidlaaaGreat
