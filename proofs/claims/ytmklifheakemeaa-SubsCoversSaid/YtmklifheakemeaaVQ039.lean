/-
  An entry copied and . Conditions as told.
-/
import Derived.Test.YtmklifheakemeaaVQ037
set_option maxRecDepth 100000
set_option maxHeartbeats 64000000
open Go.IntKind renaming i64->L
open Go.Lib renaming hid->D
open Go.Obj renaming cells->O
open Go.Value renaming int->K,slice->Q
open _root_.List renaming getElem?_eq_some_iff->J
namespace Go.Proofs.Ytmklifheakemeaa.Sb
open Go.RowKit Go.Sort Rw Ytmklifheakemeaa.Nm Pr Bk Av Rl
theorem vZ {w w':World} {row:Option Nat} (h:w.grownBy w' row):Off row w w':=⟨h.block,h.size⟩
theorem Gw {wr w0:World} {B:Nat} {v:Value} {lu:List gM} {mu:List En} (x:gM) (e:En) (o:jl wr B v lu) (hA:eF (mh w0 B wr) lu mu) (hx:mh w0 B wr x e) (hn:lu.length<=1000) (hB:B<=wr.heap.size) :
  ∃ v' w',(Builtin.append_ #[28,28] 28 #[v,Q (some ⟨wr.heap.size,0,none⟩) 1 1]).run Try.prog (wr.alloc (O (gU x).toArray 43))=.ok v' w'/\jl w' B v' (lu++[x])/\eF (mh w0 B w') (lu++[x]) (mu++[e]) /\
   (∀ B' W,B'<=B->Below B' W wr->Below B' W w')/\Off v.ownBlock (wr.alloc (O (gU x).toArray 43)) w':=by
 have NB:=iG wr (O (gU x).toArray 43);have hlit:=nR kK wr [x] 1 rfl (by simp) (gU x).toArray rfl;have o2:jl _ B v lu:=Bk.dB o NB;have hB2:B<=(wr.alloc (O (gU x).toArray 43)).heap.size:=Nat.le_trans hB NB.size;obtain⟨v',w',r',o',gr⟩:=kP kK B o2 (Row.dM hlit) hn (by simp) hB2 28;refine⟨v',w',by simpa [EN] using r',o',?_,fun B' W hB' hb=>?_,vZ gr⟩
 ·have hf:=vZ gr;have hg:=iA o2;have g:∀ y z,mh w0 B wr y z->mh w0 B w' y z:=fun y z q=>(q.grow NB).off hf hg (by decide);exact (hA.mono g).append (.cons (g _ _ hx) .nil)
 ·exact (hb.trans (NB.mono (by have:=hb.size; omega))).grown gr (Nat.le_trans hB' hB2) fun j hj=>Nat.le_trans hB' (o2.lt j hj).1
theorem qV {w0 wr:World} {B:Nat} {x:gM} {e:En} (h:mh w0 B wr x e) (hl:Below w0.heap.size w0 wr):iC wr x e:=⟨h.1,h.2.1,h.2.2.1,h.2.2.2.1,h.2.2.2.2.row hl⟩
theorem qJ (me:Int) (nv av sv ov:Value) (ev:Sl) (l:List gM) (m:List En) (t:eu) (w:World) (hs:jR w (dR ev) l) (hu:eF (iC w) l m) (hr:fC m) (hl:l.length<=900) (hf:∀ e∈m,e.p.length<=900) :
  Calls Try.prog 14 #[.agg #[K L me,nv,av,sv,dR ev,ov],pG t] w fun e w'=>(∃ (v':Sl) (lu:List gM),e=.returned (dR v')/\jR w' (dR v') lu/\eF (iC w') lu (jv m t))/\Below w.heap.size w w':=by
 obtain⟨so,n,sc⟩:=ev;obtain⟨c,d⟩:=t;obtain⟨h0,X,Y⟩:=iT w #[K L me,nv,av,sv,Q so n sc,ov] #[K L c,K L d] 31 25;have B:=D h0;have x4:=X.cell 4;obtain⟨y0,y1⟩:=Y.cs2;simp only [List.getElem?_toArray,List.getElem?_cons_zero,List.getElem?_cons_succ] at x4;have BR:=D (lZ (so,n,sc) l m (c,d) _ (hs.on h0) (hu.mono fun _ _ q=>q.on h0) hr (by omega));obtain⟨q1,q2⟩:=AX (hs.on h0) (hu.mono fun _ _ q=>q.on h0) (c,d);have hbl:(jv m (c,d)).length<=900:=by have:=oh m (c,d); have:=hu.len; omega
 have HF:=D (fun e he=>hf e (AY m (c,d) e he));generalize (l.drop (fJ m (c,d))).take (jv m (c,d)).length=lb at *;generalize cutV (so,n,sc) (fJ m (c,d)) (jv m (c,d)).length=z at *;obtain⟨z1,z2,z3⟩:=z;generalize jv m (c,d)=mb at *;have hn:lb.length=z2:=gX q1;have HN:=D hn;have hz:z2<=900:=by have:=q2.len; omega
 have Q1:=D q1;have Q2:=D q2;clear h0 X Y hs hu hr hl hf q1 q2 hn hbl;go_enter Try.func14,Try.ntmps14;go_wp2_with fail;generalize (w.alloc (O #[K L me,nv,av,sv,Q so n sc,ov] 31)).alloc (O #[K L c,K L d] 25)=W at *;refine BR.out.mono ?_;rintro e1 w1 ⟨rfl,hb⟩;have HB:=D hb;have R1:=D (Q1.out.on hb);have R2:=D (Q2.out.mono fun _ _ q=>q.on hb);clear x4 y0 y1 BR hb Q1 Q2;go_wp2
 go_loopw [5,13] (fun v i wr=>∃ (k:Nat) (lu:List gM),k<=z2/\i=K L k/\Below w1.heap.size w1 wr/\jl wr w1.heap.size v lu/\eF (mh w1 w1.heap.size wr) lu (mb.take k)) (fun _ i _=>z2-(intOf i).toNat)
 case atStart=>exact⟨0,[],Nat.zero_le _,rfl,Below.refl _ _,iJ _ _,by simpa using eF.nil⟩
 case round =>
  obtain⟨k,lu,hk,rfl,hbe,hown,hall⟩:=hrel;have BE:=D hbe;have OE:=D hown;have AE:=D hall;clear hbe hown hall;by_cases hlt:k<z2
  ·obtain⟨y,hy⟩:∃ y,lb[k]?=some y:=⟨_,List.getElem?_eq_getElem (by rw [HN.out]; exact hlt)⟩;obtain⟨q,ix,px⟩:=Iw R1.out rfl HN.out hy;obtain⟨p0,p1,p2,p3,p4,p5,p6⟩:=px wr BE.out;obtain⟨e,he,_,hin⟩:=iQ R2.out hy;obtain⟨y1,y2,y3,y4,⟨yo,yn,yc⟩,y6,y7⟩:=y;simp only at p0 p1 p2 p3 p4 p5 p6;have NB:=D (iG wr (O #[K L y1,K L y2,K L y3,K L y4,Q yo yn yc,K L y6,.bool y7] 43));have BF:=D (BE.out.trans (NB.out.mono BE.out.size));have hx:=dO wr #[K L y1,K L y2,K L y3,K L y4,Q yo yn yc,K L y6,.bool y7] 43;obtain⟨v0,v1,v2,v3,v4,v5,v6⟩:=hx.qo;have hw3:IntKind.i64.wrap ((k:Int)+1)=(k:Int)+1:=IntWalk.i64_in _ (by omega);have CP:=D (pR (y1,y2,y3,y4,(yo,yn,yc),y6,y7) e.p _ (hin.2.2.2.2.on BF.out) (HF.out e (List.mem_of_getElem? he)));have HI:=D hin;have HE:=D he;clear px hy he hin hx;go_wp2_with fail;refine CP.out.mono ?_;rintro e3 w3 ⟨⟨⟨u1,u2,u3⟩,rfl,ho⟩,hb⟩;have BG:=BF.out.trans (hb.mono BF.out.size);have hl:lu.length=k:=by rw [AE.out.len,List.length_take]; have:=HN.out; have:=R2.out.len; omega
   obtain⟨v',w',r',o',a',bl,_⟩:=Gw (w0:=w1) (y1,y2,y3,y4,(u1,u2,u3),y6,y7) e (Bk.dB (Bk.dB OE.out NB.out) hb) (AE.out.mono fun _ _ q=>(q.grow NB.out).grow hb) ⟨HI.out.1,HI.out.2.1,HI.out.2.2.1,HI.out.2.2.2.1,Or.inr (dK ho BF.out.size)⟩ (by omega) (by have:=BG.size; omega);have O2:=D o';have A2:=D a';have B2:=D (bl _ w1 (Nat.le_refl _) BG);have E2:=D (show mb.take (k+1)=mb.take k++[e] from List.take_succ_eq_append_getElem (J.1 HE.out).1 ▸ by rw [(J.1 HE.out).2]);clear CP hb ho BG hl o' a' bl v0 v1 v2 v3 v4 v5 v6 p0 p1 p2 p3 p4 p5 p6 ix NB BF;go_wp2_with (first | (at_builtin; refine wpList_append_run rfl _ _ 28 rfl rfl rfl r' ?_) | fail)
   go_roundw
   case rel=>exact⟨k+1,_,by omega,by go_num,B2.out,O2.out,by rw [E2.out]; exact A2.out⟩
   case measure=>simp [intOf]; omega
  ·obtain rfl:z2=k:=by omega
   have e:mb.take z2=mb:=List.take_of_length_le (by have:=HN.out; have:=R2.out.len; omega);rw [e] at AE;obtain⟨LZ,L8,hv⟩:=(Row.dM OE.out).len;subst hv;clear e;go_wp2;go_ret;exact⟨⟨(LZ,_,L8),lu,rfl,Row.dM OE.out,AE.out.mono fun _ _ q=>qV q BE.out⟩,B.out.trans ((HB.out.trans (BE.out.mono HB.out.size)).mono B.out.size)⟩
end Go.Proofs.Ytmklifheakemeaa.Sb
