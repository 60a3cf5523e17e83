/-
  An entry copied and . Conditions as told.
-/
import Derived.Test.YtkcfgbddlpomgaaBQ043
set_option maxRecDepth 100000
set_option maxHeartbeats 64000000
open Go.IntKind renaming i64->L
open Go.Lib renaming hid->D
open Go.Obj renaming cells->O
open Go.Value renaming int->K,slice->Q
open _root_.List renaming getElem?_eq_some_iff->J
namespace Go.Proofs.Ytkcfgbddlpomgaa.Sb
open Go.RowKit Go.Sort Rw Ytkcfgbddlpomgaa.Nm Pr Bk Av Rl
theorem oh {w w':World} {row:Option Nat} (h:w.grownBy w' row):Off row w w':=⟨h.block,h.size⟩
theorem Ct {wr w0:World} {B:Nat} {v:Value} {lu:List gq} {mu:List En} (x:gq) (e:En) (o:iZ wr B v lu) (hA:dJ (mV w0 B wr) lu mu) (hx:mV w0 B wr x e) (hn:lu.length<=1000) (hB:B<=wr.heap.size) :
  ∃ v' w',(Builtin.append_ #[27,27] 27 #[v,Q (some ⟨wr.heap.size,0,none⟩) 1 1]).run Try.prog (wr.alloc (O (fC x).toArray 41))=.ok v' w'/\iZ w' B v' (lu++[x])/\dJ (mV w0 B w') (lu++[x]) (mu++[e]) /\
   (∀ B' W,B'<=B->Below B' W wr->Below B' W w')/\Off v.ownBlock (wr.alloc (O (fC x).toArray 41)) w':=by
 have NB:=fK wr (O (fC x).toArray 41);have hlit:=jk ko wr [x] 1 rfl (by simp) (fC x).toArray rfl;have o2:iZ _ B v lu:=Bk.dx o NB;have hB2:B<=(wr.alloc (O (fC x).toArray 41)).heap.size:=Nat.le_trans hB NB.size;obtain⟨v',w',r',o',gr⟩:=iq ko B o2 (Row.dw hlit) hn (by simp) hB2 27;refine⟨v',w',by simpa [EN] using r',o',?_,fun B' W hB' hb=>?_,oh gr⟩
 ·have hf:=oh gr;have hg:=fQ o2;have g:∀ y z,mV w0 B wr y z->mV w0 B w' y z:=fun y z q=>(q.grow NB).off hf hg (by decide);exact (hA.mono g).append (.cons (g _ _ hx) .nil)
 ·exact (hb.trans (NB.mono (by have:=hb.size; omega))).grown gr (Nat.le_trans hB' hB2) fun j hj=>Nat.le_trans hB' (o2.lt j hj).1
theorem Cu {w0 wr:World} {B:Nat} {x:gq} {e:En} (h:mV w0 B wr x e) (hl:Below w0.heap.size w0 wr):iT wr x e:=⟨h.1,h.2.1,h.2.2.1,h.2.2.2.1,h.2.2.2.2.row hl⟩
theorem rF (me:Int) (nv av sv ov:Value) (ev:Sl) (l:List gq) (m:List En) (t:dI) (w:World) (hs:iY w (dz ev) l) (hu:dJ (iT w) l m) (hr:fM m) (hl:l.length<=900) (hf:∀ e∈m,e.p.length<=900) :
  Calls Try.prog 48 #[.agg #[K L me,nv,av,sv,dz ev,ov],lq t] w fun e w'=>(∃ (v':Sl) (lu:List gq),e=.returned (dz v')/\iY w' (dz v') lu/\dJ (iT w') lu (iV m t))/\Below w.heap.size w w':=by
 obtain⟨so,n,sc⟩:=ev;obtain⟨c,d⟩:=t;obtain⟨h0,X,Y⟩:=eX w #[K L me,nv,av,sv,Q so n sc,ov] #[K L c,K L d] 30 23;have B:=D h0;have x4:=X.cell 4;obtain⟨y0,y1⟩:=Y.cs2;simp only [List.getElem?_toArray,List.getElem?_cons_zero,List.getElem?_cons_succ] at x4;have BR:=D (mK (so,n,sc) l m (c,d) _ (hs.on h0) (hu.mono fun _ _ q=>q.on h0) hr (by omega));obtain⟨q1,q2⟩:=yR (hs.on h0) (hu.mono fun _ _ q=>q.on h0) (c,d);have hbl:(iV m (c,d)).length<=900:=by have:=kQ m (c,d); have:=hu.len; omega
 have HF:=D (fun e he=>hf e (yS m (c,d) e he));generalize (l.drop (eT m (c,d))).take (iV m (c,d)).length=lb at *;generalize cutV (so,n,sc) (eT m (c,d)) (iV m (c,d)).length=z at *;obtain⟨z1,z2,z3⟩:=z;generalize iV m (c,d)=mb at *;have hn:lb.length=z2:=jf q1;have HN:=D hn;have hz:z2<=900:=by have:=q2.len; omega
 have Q1:=D q1;have Q2:=D q2;clear h0 X Y hs hu hr hl hf q1 q2 hn hbl;go_enter Try.func48,Try.ntmps48;go_wp2_with fail;generalize (w.alloc (O #[K L me,nv,av,sv,Q so n sc,ov] 30)).alloc (O #[K L c,K L d] 23)=W at *;refine BR.out.mono ?_;rintro e1 w1 ⟨rfl,hb⟩;have HB:=D hb;have R1:=D (Q1.out.on hb);have R2:=D (Q2.out.mono fun _ _ q=>q.on hb);clear x4 y0 y1 BR hb Q1 Q2;go_wp2
 go_loopw [5,13] (fun v i wr=>∃ (k:Nat) (lu:List gq),k<=z2/\i=K L k/\Below w1.heap.size w1 wr/\iZ wr w1.heap.size v lu/\dJ (mV w1 w1.heap.size wr) lu (mb.take k)) (fun _ i _=>z2-(intOf i).toNat)
 case atStart=>exact⟨0,[],Nat.zero_le _,rfl,Below.refl _ _,eG _ _,by simpa using dJ.nil⟩
 case round =>
  obtain⟨k,lu,hk,rfl,hbe,hown,hall⟩:=hrel;have BE:=D hbe;have OE:=D hown;have AE:=D hall;clear hbe hown hall;by_cases hlt:k<z2
  ·obtain⟨y,hy⟩:∃ y,lb[k]?=some y:=⟨_,List.getElem?_eq_getElem (by rw [HN.out]; exact hlt)⟩;obtain⟨q,ix,px⟩:=F4 R1.out rfl HN.out hy;obtain⟨p0,p1,p2,p3,p4,p5,p6⟩:=px wr BE.out;obtain⟨e,he,_,hin⟩:=fO R2.out hy;obtain⟨y1,y2,y3,y4,⟨yo,yn,yc⟩,y6,y7⟩:=y;simp only at p0 p1 p2 p3 p4 p5 p6;have NB:=D (fK wr (O #[K L y1,K L y2,K L y3,K L y4,Q yo yn yc,K L y6,.bool y7] 41));have BF:=D (BE.out.trans (NB.out.mono BE.out.size));have hx:=dB wr #[K L y1,K L y2,K L y3,K L y4,Q yo yn yc,K L y6,.bool y7] 41;obtain⟨v0,v1,v2,v3,v4,v5,v6⟩:=hx.qG;have hw3:IntKind.i64.wrap ((k:Int)+1)=(k:Int)+1:=IntWalk.i64_in _ (by omega);have CP:=D (oJ (y1,y2,y3,y4,(yo,yn,yc),y6,y7) e.p _ (hin.2.2.2.2.on BF.out) (HF.out e (List.mem_of_getElem? he)));have HI:=D hin;have HE:=D he;clear px hy he hin hx;go_wp2_with fail;refine CP.out.mono ?_;rintro e3 w3 ⟨⟨⟨u1,u2,u3⟩,rfl,ho⟩,hb⟩;have BG:=BF.out.trans (hb.mono BF.out.size);have hl:lu.length=k:=by rw [AE.out.len,List.length_take]; have:=HN.out; have:=R2.out.len; omega
   obtain⟨v',w',r',o',a',bl,_⟩:=Ct (w0:=w1) (y1,y2,y3,y4,(u1,u2,u3),y6,y7) e (Bk.dx (Bk.dx OE.out NB.out) hb) (AE.out.mono fun _ _ q=>(q.grow NB.out).grow hb) ⟨HI.out.1,HI.out.2.1,HI.out.2.2.1,HI.out.2.2.2.1,Or.inr (cK ho BF.out.size)⟩ (by omega) (by have:=BG.size; omega);have O2:=D o';have A2:=D a';have B2:=D (bl _ w1 (Nat.le_refl _) BG);have E2:=D (show mb.take (k+1)=mb.take k++[e] from List.take_succ_eq_append_getElem (J.1 HE.out).1 ▸ by rw [(J.1 HE.out).2]);clear CP hb ho BG hl o' a' bl v0 v1 v2 v3 v4 v5 v6 p0 p1 p2 p3 p4 p5 p6 ix NB BF;go_wp2_with (first | (at_builtin; refine wpList_append_run rfl _ _ 27 rfl rfl rfl r' ?_) | fail)
   go_roundw
   case rel=>exact⟨k+1,_,by omega,by go_num,B2.out,O2.out,by rw [E2.out]; exact A2.out⟩
   case measure=>simp [intOf]; omega
  ·obtain rfl:z2=k:=by omega
   have e:mb.take z2=mb:=List.take_of_length_le (by have:=HN.out; have:=R2.out.len; omega);rw [e] at AE;obtain⟨Ck,Cm,hv⟩:=(Row.dw OE.out).len;subst hv;clear e;go_wp2;go_ret;exact⟨⟨(Ck,_,Cm),lu,rfl,Row.dw OE.out,AE.out.mono fun _ _ q=>Cu q BE.out⟩,B.out.trans ((HB.out.trans (BE.out.mono HB.out.size)).mono B.out.size)⟩
theorem mP {p:List C5} (h:eF p):p.length<=900:=by
 obtain⟨a,na,rfl⟩:=h;rw [List.length_map];have:=na.five;omega
theorem tN {α:Type} {E:Ek α} {W:World} {B:Nat} {v:Value} {l:List α} (h:Own E W B v l):∀ b,v.ownBlock=some b->B<=b:=by
 intro b hb;rcases eH h with⟨rfl,_⟩|⟨g',cap',cur,rfl,h2,_⟩
 ·cases hb
 ·obtain rfl:g'=b:=by simpa [Value.ownBlock] using hb
  exact h2
end Go.Proofs.Ytkcfgbddlpomgaa.Sb
