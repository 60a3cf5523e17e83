/-
  branch of package su. Conditions as told.
-/
import Derived.Test.YtghlpefopidlaaaGreatLQ027
import Derived.Test.YtghlpefopidlaaaGreatLQ028
set_option maxRecDepth 100000
set_option maxHeartbeats 64000000
open _root_.Bool renaming true->aP,false->aT
open _root_.Go renaming World->aJ,Calls->bH,Value->bI,Addr->bM
open Go.Ending renaming returned->aR
open Go.Instr renaming sliceAt->aV,indexAt->bN
open Go.IntKind renaming i64->Q
open Go.Lib renaming hid->D
open Go.Obj renaming cells->aM
open Go.Proofs.Tryz renaming prog->au,results29->bL
open Go.RowKit.Below renaming refl->aY
open Go.Value renaming slice->J,int->O,bool->aK,pointer->bf
open _root_.List renaming getElem?_eq_getElem->ah,length_take->ak,length_drop->ay,mem_of_getElem?->aA,getElem?_eq_some_iff->aB,length_append->aC,append_assoc->aD,getElem?_cons_zero->aG,take_append_drop->aH,getElem?_toArray->aI,getElem?_append_right->aL,getElem?_append_left->aN,takeWhile_cons->aO,getElem?_cons_succ->aS,takeWhile_sublist->aU,getElem?_drop->aX,getElem?_set_self->aZ,length_cons->bF,take_left->bK
open _root_.Nat renaming add_sub_cancel_left->aF,le_trans->aW,lt_of_lt_of_le->bg,zero_le->bG,lt_or_ge->bO
open _root_.Option renaming some->U,none->aj
open Option.some renaming inj->aQ
namespace Go.Proofs.YtghlpefopidlaaaGreat
namespace Sb
open Go.RowKit Go.Sort Rw YtghlpefopidlaaaGreat.Nm Pr Bk Av
def cutV (v:Sl) (f k:Nat):Sl:=match v with
 | (U a,_,c)=>(U (if c=f then a else a.add (f * 7)),k,c-f)
 | (aj,_,_)=>(aj,0,0)
theorem YP {α:Type} (p:α->Bool):∀ (l:List α) (j:Nat) (y:α),j<(l.takeWhile p).length->l[j]?=U y->p y=aP
 | [],_,_,_,h=>by simp at h
 | a::l,j,y,hj,h=>by
  by_cases ha:p a=aP
  ·rw [aO,if_pos ha,bF] at hj;cases j with
   | zero=>rw [<- aQ (show U a=U y from h)]; exact ha
   | succ j=>exact YP p l j y (by omega) (by simpa using h)
  ·rw [aO,if_neg ha] at hj;simp at hj
theorem YQ {α:Type} (p:α->Bool):∀ (l:List α) (y:α),l[(l.takeWhile p).length]?=U y->p y=aT
 | [],_,h=>by simp at h
 | a::l,y,h=>by
  by_cases ha:p a=aP
  ·rw [aO,if_pos ha,bF] at h;exact YQ p l y (by simpa using h)
  ·rw [aO,if_neg ha] at h;rw [<- aQ (show U a=U y from h)];simpa using ha
theorem UR (a:bM) (f e len cap:Nat) (h:f<=e) (h6:e<=cap) (w:aJ):(aV 27 (J (U a) len cap) (U (O Q f)) (U (O Q e)) aj).run au w=.ok (dX (cutV (U a,len,cap) f (e-f))) w:=by
 have h1:(f:Int)<=(e:Int):=by omega
 have h3:(e:Int)<=cap:=by omega
 obtain⟨i,i1,i2,i3,i4⟩:=mM.info;have i1':Tryz.prog.info? 67=U i:=i1;have hu':Tryz.prog.underlying 27=U (.slice 67):=mM.hu;have JM:i.size=7:=i3;by_cases he:cap=f
 ·subst he;obtain rfl:e=cap:=by omega
  simp [go_sem,hu',sizeOf,typeInfo,i1',JM,cutV]
 ·simp [go_sem,hu',sizeOf,typeInfo,i1',JM,cutV,he,h,h6]
theorem Js {W:aJ} {v:Sl} {l:List jk} (h:mh W (dX v) l) (f k:Nat) (hk:f+k<=l.length) :
  (∀ w,(aV 27 (dX v) (U (O Q f)) (U (O Q ((f+k:Nat):Int))) aj).run au w=.ok (dX (cutV v f k)) w)/\mh W (dX (cutV v f k)) ((l.drop f).take k):=by
 obtain⟨so,sn,sc⟩:=v;rcases h with⟨rfl,hv⟩|⟨a,cap,hv,h2,h3,h4⟩
 ·obtain⟨rfl,rfl,rfl⟩:so=aj/\sn=0/\sc=0:=by simpa using hv
  obtain⟨rfl,rfl⟩:f=0/\k=0:=by simp at hk; omega
  refine⟨fun w=>?_,Or.inl ⟨rfl,rfl⟩⟩;obtain⟨i,i1,i2,i3,i4⟩:=mM.info;have i1':Tryz.prog.info? 67=U i:=i1;have hu':Tryz.prog.underlying 27=U (.slice 67):=mM.hu;simp [go_sem,hu',sizeOf,typeInfo,i1',cutV]
 ·obtain⟨rfl,rfl,rfl⟩:so=U a/\sn=l.length/\sc=cap:=by simpa using hv
  refine⟨fun w=>by have h:=UR a f (f+k) l.length sc (Nat.le_add_right _ _) (aW hk h2) w; rwa [aF] at h,?_⟩;refine Or.inr ⟨(if sc=f then a else a.add (f * 7)),sc-f,?_,?_,by omega,fun j u hj=>?_⟩
  ·have e:((l.drop f).take k).length=k:=by rw [ak,ay]; omega
   rw [e]
   rfl
  ·rw [ak,ay]; omega
  ·have hlt:=(aB.1 hj).1;have hlen:(flat EN ((l.drop f).take k)).length=k * 7:=by
    rw [eD mM,ak,ay];show _ * 7=_;rw [show min k (l.length-f)=k by omega]
   rw [hlen] at hlt;rw [if_neg (by omega),add_add];refine h4 _ u ?_;have e1:flat EN l=flat EN (l.take f)++(flat EN ((l.drop f).take k)++flat EN ((l.drop f).drop k)):=by
    rw [<- gK,aH,<- gK,aH]
   have e2:(flat EN (l.take f)).length=f * 7:=by
    rw [eD mM,ak];show _ * 7=_;rw [show min f l.length=f by omega]
   rw [e1,aL (by rw [e2]; omega),e2,show f * 7+j-f * 7=j by omega,aN (by rw [hlen]; exact hlt)];exact hj
theorem zM (m:List En) (t:eU):jA m t+(qN m t).length<=m.length:=by
 have h1:(qN m t).length<=(m.drop (jA m t)).length:=(aU _).length_le;have h2:jA m t<=m.length:=(aU _).length_le;rw [ay] at h1;omega
theorem Dn (v:Sl) (l:List jk) (m:List En) (t:eU) (w:aJ) (hv:mh w (dX v) l) (hA:eY (jJ w) l m) (hr:jl m) (hl:l.length<=1000) :
  bH au 84 #[dX v,nC t] w fun e w'=>e=aR (dX (cutV v (jA m t) (qN m t).length))/\Below w.heap.size w w':=by
 have hfk:=zM m t;have hML:l.length=m.length:=hA.len;obtain⟨f,hf⟩:∃ f,jA m t=f:=⟨_,rfl⟩;obtain⟨k,hk⟩:∃ k,(qN m t).length=k:=⟨_,rfl⟩;rw [hf,hk] at hfk ⊢;have bJ:=D ((Js hv f k (by omega)).1);obtain⟨so,n,sc⟩:=v;generalize cutV (so,n,sc) f k=z at bJ ⊢;obtain⟨z1,z2,z3⟩:=z;have hn:l.length=n:=iX hv;obtain⟨c,d⟩:=t;obtain⟨h0,X,Y⟩:=iI w #[J so n sc] #[O Q c,O Q d] 27 23;have a5:=D h0;have a8:=D (hv.on h0);have T:=D (hA.mono fun _ _ q=>q.on h0);have b9:=D X;have a6:=D Y;have x0:=X.cell 0;simp only [aI,aG] at x0;have FL:∀ (i:Nat) (e:En),i<f->m[i]?=U e->eH e.tree (c,d)=aP:=fun i e hi he=>YP (fun e:En=>eH e.tree (c,d)) m i e (by unfold jA at hf; omega) he;have FH:∀ (i:Nat) (e:En),f<=i->m[i]?=U e->eH e.tree (c,d)=aT:=fun i e hi he=>by
  refine Oz (c,d) hr e ?_;rw [<- C8];unfold jA at hf;rw [hf];exact aA (show (m.drop f)[i-f]?=U e by rw [aX,show f+(i-f)=i by omega]; exact he)
 have cA:=D (show ∀ (i:Nat) (e:En),i<k->m[f+i]?=U e->e.tree=(c,d) from fun i e hi he=>by
  have:=YP (fun e:En=>decide (e.tree=(c,d))) (m.drop f) i e (by unfold qN at hk; rw [hf] at hk; omega) (by rw [aX]; exact he);exact of_decide_eq_true this)
 have c8:=D (show ∀ (e:En),m[f+k]?=U e->e.tree≠(c,d) from fun e he=>by
  have:=YQ (fun e:En=>decide (e.tree=(c,d))) (m.drop f) e (by unfold qN at hk; rw [hf] at hk; rw [hk,aX]; exact he);exact of_decide_eq_false this)
 have c7:=D (show ∀ i,i<n->∀ W,Below ((w.alloc (aM #[J so n sc] 27)).alloc (aM #[O Q c,O Q d] 23)).heap.size ((w.alloc (aM #[J so n sc] 27)).alloc (aM #[O Q c,O Q d] 23)) W ->
   bH au 132 (#[O Q i]++#[bf (U ⟨w.heap.size,0,aj⟩),bf (U ⟨w.heap.size+1,0,aj⟩)]) W fun e w'=>e=aR (aK ((fun i=>match l[i]? with | some y=>!eH (y.1,y.2.1) (c,d) | none=>aP) i))/\Below W.heap.size W w' from fun i hi W hb=>by
  obtain⟨y,hy⟩:∃ y,l[i]?=U y:=⟨_,ah (by omega)⟩;refine acG i _ _ so n sc l (c,d) y _ W (a8.out.on hb) hn hy ?_ (b9.out.on hb) (a6.out.on hb);simp only [hy])
 have aE:=D (show ∀ i,i<f->(fun i=>match l[i]? with | some y=>!eH (y.1,y.2.1) (c,d) | none=>aP) i=aT from fun i hi=>by
  obtain⟨y,hy⟩:∃ y,l[i]?=U y:=⟨_,ah (by omega)⟩;obtain⟨e,he,hke,hx⟩:=oO T.out hy;have h1:=FL i e hi he;rw [<- hx.1] at h1;simp only [hy,h1]
  rfl)
 have bQ:=D (show ∀ i,f<=i->i<n->(fun i=>match l[i]? with | some y=>!eH (y.1,y.2.1) (c,d) | none=>aP) i=aP from fun i hi hi2=>by
  obtain⟨y,hy⟩:∃ y,l[i]?=U y:=⟨_,ah (by omega)⟩;obtain⟨e,he,hke,hx⟩:=oO T.out hy;have h1:=FH i e hi he;rw [<- hx.1] at h1;simp only [hy,h1]
  rfl)
 have a4:=D hn;have ln:n<=1000:=by omega
 have asa:f+k<=n:=by omega
 clear hv hA h0 X Y hk hf hl hn hr hfk hML FL FH;go_enter Tryz.func84,Tryz.ntmps84;go_wp2_with fail;generalize (w.alloc (aM #[J so n sc] 27)).alloc (aM #[O Q c,O Q d] 23)=W at *;refine (xC 132 #[bf (U ⟨w.heap.size,0,aj⟩),bf (U ⟨w.heap.size+1,0,aj⟩)] acE n f _ W (by omega) c7.out (by omega) aE.out bQ.out).mono ?_;rintro e1 w1 ⟨rfl,hb⟩;have cC:=D hb;clear x0 c7 aE bQ hb;go_wp2
 go_loopw [6] (fun i wr=>∃ j:Nat,j<=k/\i=O Q ((f+j:Nat):Int)/\Below W.heap.size W wr) (fun i _=>f+k-(intOf i).toNat)
 case atStart=>exact⟨0,bG _,by simp,cC.out⟩
 case round =>
  obtain⟨j,hj,rfl,hbe⟩:=hrel;have a3:=D hbe;have a0:=cell_regrown (show wr.cell? ⟨w.heap.size,0,aj⟩=U (J so n sc) from (b9.out.on hbe).cell 0);have b0:=cell_regrown (show wr.cell? ⟨w.heap.size+1,0,aj⟩=U (O Q c) from (a6.out.on hbe).cell 0);have b1:=cell_regrown (show wr.cell? ⟨w.heap.size+1,1,aj⟩=U (O Q d) from (a6.out.on hbe).cell 1);have a7:=D (fun dq osq=>a3.out.trans ((below_regrown wr dq osq).mono a3.out.size));clear hbe;by_cases hjk:j<k
  ·obtain⟨y,hy⟩:∃ y,l[f+j]?=U y:=⟨_,ah (by rw [a4.out]; omega)⟩;obtain⟨p,ix,p0,p1,p2,p3,p4,p5,p6⟩:=Dc a8.out rfl a4.out hy a3.out;obtain⟨e,he,_,hx⟩:=oO T.out hy;have ht:(y.1,y.2.1)=(c,d):=hx.1.trans (cA.out j e hjk he);have hjn:f+j<n:=by omega
   have g4:decide (((f+j:Nat):Int)<(n:Int))=aP:=by simp; omega
   have hw3:IntKind.i64.wrap (((f+j:Nat):Int)+1)=((f+(j+1):Nat):Int):=by rw [IntWalk.i64_in _ (by omega)]; omega
   obtain⟨y1,y2,y3,y4,⟨yo,yn,yc⟩,y6,y7⟩:=y;obtain⟨rfl,rfl⟩:y1=c/\y2=d:=by simpa using ht
   simp only at p0 p1;have e1:=rH y1 y2 y1 y2 aP (by simp);clear p2 p3 p4 p5 p6 hy he hx ht;generalize hq:f+j=q at *;have c9:=D hq;clear hq;go_wp2;refine wp_region_quiet_below (by kernel_rfl) (by kernel_rfl) ?_
   repeat (go_big_quiet_step (fail))
   refine wpQuiet_nil ?_;intro _ hw';obtain⟨⟨dq,osq⟩,hw''⟩:=hw';subst hw'';go_wp2
   go_roundw
   case rel=>exact⟨j+1,by omega,by rfl,a7.out _ _⟩
   case measure =>
    have hq:=c9.out;simp [intOf];omega
  ·obtain rfl:j=k:=by omega
   have RC2:=bJ.out;by_cases hjn:f+j<n
   ·obtain⟨y,hy⟩:∃ y,l[f+j]?=U y:=⟨_,ah (by rw [a4.out]; omega)⟩;obtain⟨p,ix,p0,p1,p2,p3,p4,p5,p6⟩:=Dc a8.out rfl a4.out hy a3.out;obtain⟨e,he,_,hx⟩:=oO T.out hy;have ht:(y.1,y.2.1)≠(c,d):=fun q=>c8.out e he (hx.1.symm.trans q);have g4:decide (((f+j:Nat):Int)<(n:Int))=aP:=by simp; omega
    obtain⟨y1,y2,y3,y4,⟨yo,yn,yc⟩,y6,y7⟩:=y;simp only at p0 p1;have e1:=rH y1 y2 c d aT (Bool.eq_false_iff.2 fun h=>ht (by simp at h; rw [h.1,h.2]));clear p2 p3 p4 p5 p6 hy he hx ht;generalize f+j=q at *;go_wp2;refine wp_region_quiet_below (by kernel_rfl) (by kernel_rfl) ?_
    repeat (go_big_quiet_step (fail))
    refine wpQuiet_nil ?_;intro _ hw';obtain⟨⟨dq,osq⟩,hw''⟩:=hw';subst hw'';have a0:=a0 dq osq;go_wp2;go_ret;exact⟨rfl,a5.out.trans ((a7.out _ _).mono a5.out.size)⟩
   ·have g4:decide (((f+j:Nat):Int)<(n:Int))=aT:=by simp; omega
    generalize f+j=q at *;go_wp2;refine wp_region_quiet_below (by kernel_rfl) (by kernel_rfl) ?_
    repeat (go_big_quiet_step (fail))
    refine wpQuiet_nil ?_;intro _ hw';obtain⟨⟨dq,osq⟩,hw''⟩:=hw';subst hw'';have a0:=a0 dq osq;go_wp2;go_ret;exact⟨rfl,a5.out.trans ((a7.out _ _).mono a5.out.size)⟩
end Sb
namespace Sb
open Go.RowKit Go.Sort Rw YtghlpefopidlaaaGreat.Nm Pr Bk Av Rl
theorem YR (pO bv:bI) (p q:List C5) (w:aJ) (ha:fI w pO p) (hb:fI w bv q) (hp:dR p) (hq:dR q) :
  bH au 27 #[pO,bv] w fun e w'=>e=aR (aK (oH p q))/\Below w.heap.size w w':=by
 obtain⟨a,na,rfl⟩:=hp;obtain⟨b,nb,rfl⟩:=hq;unfold oH;rw [oG,oG];exact OJ pO bv a b w ha hb na nb
theorem aii {α:Type} (f:α->Bool) {l:List α} (h:∀ (j:Nat) (y:α),j<l.length->l[j]?=U y->f y=aT):l.any f=aT:=by
 rw [List.any_eq_false];intro e he;obtain⟨j,hj,hje⟩:=List.getElem_of_mem he;simpa using h j e hj (by rw [ah hj,hje])
theorem aij {α:Type} (f:α->Bool) {l:List α} {k:Nat} {y:α} (h:l[k]?=U y) (hf:f y=aP):l.any f=aP:=by
 rw [List.any_eq_true];exact⟨y,aA h,hf⟩
abbrev cE (p:List C5) (e:En):Bool:=e.up && oH e.p p
theorem Ae (v:Sl) (pv:bI) (l:List jk) (m:List En) (p':List C5) (w:aJ) (hs:mh w (dX v) l) (hu:eY (jJ w) l m) (hp:fI w pv p') (hok:∀ e∈m,dR e.p) (hop:dR p') :
  bH au 131 #[dX v,pv] w fun e w'=>e=aR (aK (Fh m p'))/\Below w.heap.size w w':=by
 have aE:=D hu;have c8:=D hp;have bQ:=D hok;have c7:=D hop;obtain⟨pa,pc,rfl⟩:=hp.len;generalize p'.length=pn at *;obtain⟨so,n,sc⟩:=v;have hn:=iX hs;have bJ:=D hs;have lm:=hs.most;unfold maxLen at lm;rw [hn] at lm;have a4:=D hn;clear hu hp hok hop hs hn;go_enter Tryz.func131,Tryz.ntmps131;go_wp2
 go_loopw [9] (fun i wr=>∃ k:Nat,k<=n/\i=O Q k/\Below w.heap.size w wr/\∀ (j:Nat) (y:En),j<k->m[j]?=U y->cE p' y=aT) (fun i _=>n-(intOf i).toNat)
 case atStart=>exact⟨0,bG _,rfl,aY _ _,fun j y h=>by omega⟩
 case round =>
  obtain⟨k,hk,rfl,hbe,hall⟩:=hrel;have a3:=D hbe;have a6:=D hall;clear hbe hall;by_cases hlt:k<n
  ·obtain⟨y,hy⟩:∃ y,l[k]?=U y:=⟨_,ah (by rw [a4.out]; exact hlt)⟩;obtain⟨q,ix,px⟩:=P8 bJ.out rfl a4.out hy;obtain⟨p0,p1,p2,p3,p4,p5,p6⟩:=px wr a3.out;obtain⟨e,he,_,hin⟩:=oO aE.out hy;obtain⟨y1,y2,y3,y4,⟨yo,yn,yc⟩,y6,y7⟩:=y;simp only at p0 p1 p2 p3 p4 p5 p6;have b9:=D (gN wr (aM #[O Q y1,O Q y2,O Q y3,O Q y4,J yo yn yc,O Q y6,aK y7] 67));have hw3:IntKind.i64.wrap ((k:Int)+1)=(k:Int)+1:=IntWalk.i64_in _ (by omega);obtain⟨t,ht⟩:∃ r,oH e.p p'=r:=⟨_,rfl⟩;have a7:=D (show cE p' e=(y7 && t) by unfold cE; rw [<- hin.2.2.2.1,ht]);have a5:=D he;have T:=D (a3.out.trans (b9.out.mono a3.out.size));have a0:=D (YR (J yo yn yc) (J pa pn pc) e.p p' _ (hin.2.2.2.2.on T.out) (c8.out.on T.out) (bQ.out _ (aA he)) c7.out);rw [ht] at a0;clear px hy ht he hin;cases y7
   ·clear a0;go_wp2
    go_roundw
    case rel=>exact⟨k+1,by omega,by go_num,T.out,fun j y' hj h1=>by
     rcases bO j k with h3|h3
     ·exact a6.out j y' h3 h1
     ·obtain rfl:j=k:=by omega
      have e1:=a5.out;rw [h1] at e1;rw [aQ e1];exact a7.out.trans (by simp)⟩
    case measure=>simp [intOf]; omega
   ·go_wp2_with fail;refine a0.out.mono ?_;rintro e3 w3 ⟨rfl,hb⟩;have a8:=D (T.out.trans (hb.mono T.out.size));clear a0 hb p0 p1 p2 p3 p4 p5 p6 ix;cases t
    ·go_wp2
     go_roundw
     case rel=>exact⟨k+1,by omega,by go_num,a8.out,fun j y' hj h1=>by
      rcases bO j k with h3|h3
      ·exact a6.out j y' h3 h1
      ·obtain rfl:j=k:=by omega
       have e1:=a5.out;rw [h1] at e1;rw [aQ e1];exact a7.out.trans (by simp)⟩
     case measure=>simp [intOf]; omega
    ·have hd:Fh m p'=aP:=aij (cE p') a5.out (a7.out.trans (by simp));go_wp2;go_ret;exact⟨by rw [hd]; rfl,a8.out⟩
  ·obtain rfl:k=n:=by omega
   have hd:Fh m p'=aT:=aii (cE p') fun j y hj h=>a6.out j y (by rw [<- a4.out,aE.out.len]; exact hj) h;go_wp2;go_ret;exact⟨by rw [hd]; rfl,a3.out⟩
theorem aik {W:aJ} {v:Sl} {l:List jk} {m:List En} (hv:mh W (dX v) l) (hA:eY (jJ W) l m) (t:eU):mh W (dX (cutV v (jA m t) (qN m t).length)) ((l.drop (jA m t)).take (qN m t).length)/\eY (jJ W) ((l.drop (jA m t)).take (qN m t).length) (qN m t):=by
 refine⟨(Js hv _ _ (by rw [hA.len]; exact zM m t)).2,?_⟩;have h:=(hA.drop (jA m t)).take (qN m t).length;have e:(m.drop (jA m t)).take (qN m t).length=qN m t:=by
  unfold qN
  conv=>lhs; arg 2; rw [<- List.takeWhile_append_dropWhile (p:=fun e:En=>decide (e.tree=t)) (l:=m.drop (jA m t))]
  rw [bK]
 rw [e] at h;exact h
theorem ail (m:List En) (t:eU):∀ e∈qN m t,e∈m:=fun _ he=>List.mem_of_mem_drop ((aU _).subset he)
theorem YS (me:Int) (nv av sv ov:bI) (ev:Sl) (l:List jk) (m:List En) (t:eU) (pv:bI) (p':List C5) (w:aJ) (hs:mh w (dX ev) l) (hu:eY (jJ w) l m) (hr:jl m) (hl:l.length<=1000) (hp:fI w pv p') (hok:∀ e∈m,dR e.p) (hop:dR p') :
  bH au 156 #[.agg #[O Q me,nv,av,sv,dX ev,ov],nC t,pv] w fun e w'=>e=aR (aK (fA m t p'))/\Below w.heap.size w w':=by
 obtain⟨pa,pc,rfl⟩:=hp.len;obtain⟨so,n,sc⟩:=ev;obtain⟨c,d⟩:=t;obtain⟨h0,X,Y⟩:=iI w #[O Q me,nv,av,sv,J so n sc,ov] #[O Q c,O Q d] 30 23;have B:=D h0;have x4:=X.cell 4;obtain⟨y0,y1⟩:=Y.cs2;simp only [aI,aG,aS] at x4;have T:=D (Dn (so,n,sc) l m (c,d) _ (hs.on h0) (hu.mono fun _ _ q=>q.on h0) hr hl);obtain⟨q1,q2⟩:=aik (hs.on h0) (hu.mono fun _ _ q=>q.on h0) (c,d);have a5:=D q1;have a7:=D q2;have a8:=D (hp.on h0);have a6:=D (fun e he=>hok e (ail m (c,d) e he));have a4:=D (ah1 hr (c,d) p');generalize p'.length=pn at *;generalize fA m (c,d) p'=r at *;generalize cutV (so,n,sc) (jA m (c,d)) (qN m (c,d)).length=z at *;obtain⟨z1,z2,z3⟩:=z;clear h0 X Y hs hu hr hl hp hok q1 q2;go_enter Tryz.func156,Tryz.ntmps156;go_wp2_with fail;generalize (w.alloc (aM #[O Q me,nv,av,sv,J so n sc,ov] 30)).alloc (aM #[O Q c,O Q d] 23)=W at *;refine T.out.mono ?_;rintro e1 w1 ⟨rfl,hb⟩;have a0:=D hb;have a3:=D (Ae (z1,z2,z3) (J pa pn pc) _ (qN m (c,d)) p' w1 (a5.out.on hb) (a7.out.mono fun _ _ q=>q.on hb) (a8.out.on hb) a6.out hop);clear x4 y0 y1 hb T;go_wp2_with fail;refine a3.out.mono ?_;rintro e2 w2 ⟨rfl,hb2⟩;go_wp2;go_ret;exact⟨by rw [<- a4.out]; rfl,B.out.trans ((a0.out.trans (hb2.mono a0.out.size)).mono B.out.size)⟩
def yF (m:List En) (t s:eU):Option En:=match m[dZ (m.map dY) (t,s)]? with
 | none=>aj
 | some e=>if dY e=(t,s) then U e else aj
def FiQ (w:aJ) (o:Option En) (e:Ending) (w':aJ):Prop:=(match o with
 | none=>e=aR (.tuple #[qO (0,0,0,0,(aj,0,0),0,aT),aK aT])
 | some a=>∃ r:jk,e=aR (.tuple #[qO r,aK aP])/\jJ w' r a)/\Below w.heap.size w w'
theorem sG {m:List En} {t s:eU} (h:jQ m t s=aP):∃ e,m[dZ (m.map dY) (t,s)]?=U e/\dY e=(t,s)/\yF m t s=U e:=by
 unfold jQ at h;cases hm:m[dZ (m.map dY) (t,s)]? with
 | none=>rw [hm] at h; cases h
 | some e =>
  rw [hm] at h;have hk:=of_decide_eq_true h;exact⟨e,rfl,hk,by unfold yF; rw [hm]; simp only; rw [if_pos hk]⟩
theorem Dp {m:List En} {t s:eU} (h:jQ m t s=aT):yF m t s=aj:=by
 unfold jQ at h;unfold yF;cases hm:m[dZ (m.map dY) (t,s)]? with
 | none=>rfl
 | some e =>
  rw [hm] at h;simp only;rw [if_neg (of_decide_eq_false h)]
theorem UU (me:Int) (nv av sv ov:bI) (ev:Sl) (l:List jk) (m:List En) (t s:eU) (w:aJ) (hs:mh w (dX ev) l) (hu:eY (jJ w) l m) (hr:jl m) (hl:l.length<=1000) (hf:∀ e∈m,e.p.length<=900) :
  bH au 29 #[.agg #[O Q me,nv,av,sv,dX ev,ov],nC t,nC s] w (FiQ w (yF m t s)):=by
 obtain⟨so,n,sc⟩:=ev;obtain⟨c,d⟩:=t;obtain⟨g,h⟩:=s;obtain⟨h0,X,Y,Z,V⟩:=vG w #[O Q me,nv,av,sv,J so n sc,ov] #[O Q c,O Q d] #[O Q g,O Q h] #[O Q 0,O Q 0,O Q 0,O Q 0,J aj 0 0,O Q 0,aK aT] 30 23 23 67;have B:=D h0;have x4:=X.cell 4;obtain⟨y0,y1⟩:=Y.cs2;obtain⟨z0,z1⟩:=Z.cs2;simp only [aI,aG,aS] at x4;have cC:=D (hs.on h0);have c8:=D (hu.mono fun _ _ q=>q.on h0);have bJ:=D (zK (so,n,sc) l m (c,d) (g,h) _ cC.out c8.out hr hl);have cM:=D X;have cN:=D V;have cL:=D hf;have hn:=iX hs;have cF:=D hn;obtain⟨th,hth⟩:∃ k,jQ m (c,d) (g,h)=k:=⟨_,rfl⟩;rw [hth] at bJ;obtain⟨k,hk⟩:∃ k,dZ (m.map dY) ((c,d),(g,h))=k:=⟨_,rfl⟩;rw [hk] at bJ;have cJ:=D hk;obtain⟨fo,hfo⟩:∃ o,yF m (c,d) (g,h)=o:=⟨_,rfl⟩;rw [hfo];have cG:=D hfo;have SV:=D V.lt;clear h0 X Y Z V hs hu hr hl hf hn hk hfo;go_enter Tryz.func29,Tryz.ntmps29;go_wp2_with fail;generalize (((w.alloc (aM #[O Q me,nv,av,sv,J so n sc,ov] 30)).alloc (aM #[O Q c,O Q d] 23)).alloc (aM #[O Q g,O Q h] 23)).alloc (aM #[O Q 0,O Q 0,O Q 0,O Q 0,J aj 0 0,O Q 0,aK aT] 67)=W at *;refine bJ.out.mono ?_;rintro e1 w1 ⟨rfl,hb⟩;have cH:=D hb;have cQ:=D (cM.out.on hb);have V2:=cN.out.on hb;have c7:=D (B.out.trans (hb.mono B.out.size));clear x4 y0 y1 z0 z1 bJ hb;have x4:=cQ.out.cell 4;simp only [aI,aG,aS] at x4;cases th
 ·have FN:=D (show fo=aj by rw [<- cG.out]; exact Dp hth);obtain⟨T,a0,a3,a4,a5,a6,a7⟩:=V2.pG;obtain⟨f0,f1,f2,f3,f4,f5,f6⟩:=V2.fs7;have zz:=V2.lt;have cA:=D (vH V2 (O Q 0) (O Q 0) (O Q 0) (O Q 0) (J aj 0 0) (O Q 0) (aK aT));have c9:=D (qI (b:=w.heap.size+1+1+1) c7.out (by omega) (O Q 0) (O Q 0) (O Q 0) (O Q 0) (J aj 0 0) (O Q 0) (aK aT));clear V2 hth;go_wp2_with fail;clear T a0 a3 a4 a5 a6 a7;obtain⟨T,a0,a3,a4,a5,a6,a7⟩:=cA.out.pG;refine bodyPost_ret (v:=.tuple #[.agg #[O Q 0,O Q 0,O Q 0,O Q 0,J aj 0 0,O Q 0,aK aT],aK aT]) (by simp [results,bL,go_sem,T,a0,a3,a4,a5,a6,a7]) rfl ?_;rw [FN.out];exact⟨rfl,c9.out⟩
 ·obtain⟨e,he,hke,hfe⟩:=sG hth;have cT:=D (show fo=U e by rw [<- cG.out]; exact hfe);rw [cJ.out] at he;have hkm:=(aB.1 he).1;have hkn:k<n:=by rw [<- cF.out,c8.out.len]; exact hkm
  obtain⟨y,hy,hx⟩:=c8.out.at k e he;obtain⟨p,ix,px⟩:=P8 cC.out rfl cF.out hy;obtain⟨p0,p1,p2,p3,p4,p5,p6⟩:=px w1 cH.out;obtain⟨y1,y2,y3,y4,⟨yo,yn,yc⟩,y6,y7⟩:=y;simp only at p0 p1 p2 p3 p4 p5 p6;have cI:=D (Bn (y1,y2,y3,y4,(yo,yn,yc),y6,y7) e.p w1 (hx.2.2.2.2.on cH.out) (cL.out e (aA he)));have bQ:=D hx;have cD:=D V2;clear px hy hx he hke hfe hth V2 hkm;go_wp2_with fail;refine cI.out.mono ?_;rintro e2 w2 ⟨⟨⟨a8,aE,b9⟩,rfl,ho⟩,hb⟩;have Y1:=cD.out.on hb;have cR:=D (show w.heap.size+1+1+1<w1.heap.size from cD.out.lt);have cS:=D (c7.out.trans (hb.mono c7.out.size));clear cI hb p0 p1 p2 p3 p4 p5 p6 ix x4;obtain⟨T,a0,a3,a4,a5,a6,a7⟩:=Y1.pG;obtain⟨f0,f1,f2,f3,f4,f5,f6⟩:=Y1.fs7;have zz:=Y1.lt;have cA:=D (vH Y1 (O Q y1) (O Q y2) (O Q y3) (O Q y4) (J a8 aE b9) (O Q y6) (aK y7));have c9:=D (qI (b:=w.heap.size+1+1+1) cS.out (by omega) (O Q y1) (O Q y2) (O Q y3) (O Q y4) (J a8 aE b9) (O Q y6) (aK y7));have cP:=D (K7 ho (w.heap.size+1+1+1) cR.out (O Q y1) (O Q y2) (O Q y3) (O Q y4) (J a8 aE b9) (O Q y6) (aK y7));clear Y1 ho;go_wp2_with fail;clear T a0 a3 a4 a5 a6 a7;obtain⟨T,a0,a3,a4,a5,a6,a7⟩:=cA.out.pG;refine bodyPost_ret (v:=.tuple #[.agg #[O Q y1,O Q y2,O Q y3,O Q y4,J a8 aE b9,O Q y6,aK y7],aK aP]) (by simp [results,bL,go_sem,T,a0,a3,a4,a5,a6,a7]) rfl ?_;rw [cT.out];exact⟨⟨(y1,y2,y3,y4,(a8,aE,b9),y6,y7),rfl,bQ.out.1,bQ.out.2.1,bQ.out.2.2.1,bQ.out.2.2.2.1,Row.dJ cP.out⟩,c9.out⟩
theorem Hz {w w':aJ} {row:Option Nat} (h:w.grownBy w' row):Off row w w':=⟨h.block,h.size⟩
theorem ain {wr w0:aJ} {B:Nat} {v:bI} {lu:List jk} {mu:List En} (x:jk) (e:En) (o:jH wr B v lu) (hA:eY (tK w0 B wr) lu mu) (hx:tK w0 B wr x e) (hn:lu.length<=1000) (hB:B<=wr.heap.size) :
  ∃ v' w',(Builtin.append_ #[27,27] 27 #[v,J (U ⟨wr.heap.size,0,aj⟩) 1 1]).run au (wr.alloc (aM (jr x).toArray 67))=.ok v' w'/\jH w' B v' (lu++[x])/\eY (tK w0 B w') (lu++[x]) (mu++[e]) /\
   (∀ B' W,B'<=B->Below B' W wr->Below B' W w')/\Off v.ownBlock (wr.alloc (aM (jr x).toArray 67)) w':=by
 have NB:=gN wr (aM (jr x).toArray 67);have hlit:=jC mM wr [x] 1 rfl (by simp) (jr x).toArray rfl;have o2:jH _ B v lu:=Bk.dI o NB;have hB2:B<=(wr.alloc (aM (jr x).toArray 67)).heap.size:=aW hB NB.size;obtain⟨v',w',r',o',gr⟩:=gZ mM B o2 (Row.dJ hlit) hn (by simp) hB2 27;refine⟨v',w',by simpa [EN] using r',o',?_,fun B' W hB' hb=>?_,Hz gr⟩
 ·have hf:=Hz gr;have hg:=jF o2;have g:∀ y z,tK w0 B wr y z->tK w0 B w' y z:=fun y z q=>(q.grow NB).off hf hg (by decide);exact (hA.mono g).append (.cons (g _ _ hx) .nil)
 ·exact (hb.trans (NB.mono (by have:=hb.size; omega))).grown gr (aW hB' hB2) fun j hj=>aW hB' (o2.lt j hj).1
theorem Dq {w0 wr:aJ} {B:Nat} {x:jk} {e:En} (h:tK w0 B wr x e) (hl:Below w0.heap.size w0 wr):jJ wr x e:=⟨h.1,h.2.1,h.2.2.1,h.2.2.2.1,h.2.2.2.2.row hl⟩
theorem iD {p:List C5} (h:dR p):p.length<=900:=by
 obtain⟨a,na,rfl⟩:=h;rw [List.length_map];have:=na.five;omega
theorem acP {α:Type} {E:Ek α} {ob:Option Nat} {W x:aJ} {B g n cap:Nat} {l:List α} (h:Off ob W x) (ho:Own E W B (J (U ⟨g,0,aj⟩) n cap) l) (hne:U g≠ob):Own E x B (J (U ⟨g,0,aj⟩) n cap) l:=by
 refine⟨ho.1,?_⟩;rcases ho.2 with h2|⟨g',cap',cur,h1,h2,h3,h4⟩
 ·exact Or.inl h2
 ·obtain⟨rfl,_⟩:g=g'/\True:=by simp at h1; exact⟨h1.1,trivial⟩
  exact Or.inr ⟨g,cap',cur,h1,h2,by rw [h.1 g (lt_of_heap h3) hne]; exact h3,h4⟩
theorem UW (g f k K C:Nat) (h:k<K) (w:aJ):(bN 27 (J (U ⟨g,f * 7,aj⟩) K C) (O Q k)).run au w=.ok (bf (U ⟨g,(f+k) * 7,aj⟩)) w:=by
 have h1:(bN 27 (J (U ⟨g,f * 7,aj⟩) K C) (O Q k)).run au w=.ok (bf (U ((⟨g,f * 7,aj⟩:bM).add (k * 7)))) w:=yU mM ⟨g,f * 7,aj⟩ k K C h w;rw [h1];have e:(⟨g,f * 7,aj⟩:bM).add (k * 7)=⟨g,(f+k) * 7,aj⟩:=by
  rw [Nat.add_mul];by_cases hk:k * 7=0
  ·rw [hk,add_zero,Nat.add_zero]
  ·rw [add_pos _ _ hk]
 rw [e]
theorem acQ {α:Type} {E:Ek α} {W:aJ} {B g n cap:Nat} {l:List α} (h:Own E W B (J (U ⟨g,0,aj⟩) n cap) l):B<=g:=by
 rcases gB h with⟨h1,_⟩|⟨g',cap',cur,h1,h2,_⟩
 ·cases h1
 ·obtain⟨rfl,_⟩:g=g'/\True:=by simp at h1; exact⟨h1.1,trivial⟩
  exact h2
theorem But.off {g:Nat} {ob:Option Nat} {w W x:aJ} (h:But g w W) (ho:Off ob W x) (hb:∀ b,ob=U b->w.heap.size<=b):But g w x :=
 ⟨fun j hj hne=>(ho.1 j (bg hj h.2) fun e=>by have:=hb j e.symm; omega).trans (h.1 j hj hne),aW h.2 ho.2⟩
theorem Jt {α:Type} {E:Ek α} {W:aJ} {B:Nat} {v:bI} {l:List α} (h:Own E W B v l):∀ b,v.ownBlock=U b->B<=b:=by
 intro b hb;rcases gB h with⟨rfl,_⟩|⟨g',cap',cur,rfl,h2,_⟩
 ·cases hb
 ·obtain rfl:g'=b:=by simpa [Value.ownBlock] using hb
  exact h2
theorem Ju {W:aJ} {B g n cap f K:Nat} {l:List jk} (ho:jH W B (J (U ⟨g,0,aj⟩) n cap) l) (hK:f+K<=n) (h0:0<K):mh W (J (U ⟨g,f * 7,aj⟩) K (cap-f)) ((l.drop f).take K):=by
 have hl:l.length=n:=gL ho;have hnc:n<=cap:=by
  rcases gB ho with⟨h1,_⟩|⟨g',cap',cur,h1,_,_,h4,_⟩
  ·cases h1
  ·obtain⟨_,_,rfl⟩:g=g'/\n=l.length/\cap=cap':=by simpa using h1
   rw [hl] at h4;exact h4
 have h:=(Js (v:=(U ⟨g,0,aj⟩,n,cap)) (Row.dJ ho) f K (by omega)).2;unfold cutV at h;simp only at h;rw [if_neg (by omega),lY] at h;exact h
structure Ra (w0 w wr:aJ) (B g n cap:Nat) (a c:List En) (s:List En×List En) (v:bI):Prop where
 row:∃ l,jH wr B (J (U ⟨g,0,aj⟩) n cap) l/\eY (tK w0 B wr) l (a++s.1++c)
 up:∃ lu,jH wr w.heap.size v lu/\eY (tK w0 w.heap.size wr) lu s.2
 but:But g w wr
 low:∀ B' W,B'<=g->Below B' W w->Below B' W wr
theorem UY (w0:aJ) (B g n cap f K:Nat) (ra:Option bM) (rc:Nat) (l:List jk) (m:List En) (w:aJ) (hw0:Below w0.heap.size w0 w) (hB0:w0.heap.size<=B) (ho:jH w B (J (U ⟨g,0,aj⟩) n cap) l) (hA:eY (tK w0 B w) l m) (hfK:f+K<=n) (hn:n<=900)
  (hra:0<K->ra=U ⟨g,f * 7,aj⟩/\rc=cap-f) (hok:∀ e∈m,dR e.p) :
  bH au 159 #[J ra K rc] w fun e w'=>∃ v':Sl,e=aR (dX v')/\Ra w0 w w' B g n cap (m.take f) (m.drop (f+K)) (iL ((m.drop f).take K) K) (dX v'):=by
 obtain⟨a,ha⟩:∃ a,m.take f=a:=⟨_,rfl⟩;obtain⟨r,hr⟩:∃ r,(m.drop f).take K=r:=⟨_,rfl⟩;obtain⟨c,hc⟩:∃ c,m.drop (f+K)=c:=⟨_,rfl⟩;have hmn:m.length=n:=by rw [<- hA.len]; exact gL ho
 have hm:m=a++r++c:=by
  rw [<- ha,<- hr,<- hc,aD,show m.drop (f+K)=(m.drop f).drop K by rw [List.drop_drop],aH,aH]
 have hal:a.length=f:=by rw [<- ha,ak]; omega
 have hrl:r.length=K:=by rw [<- hr,ak,ay]; omega
 have hrr:∀ k,(iL r k).1.length=K:=fun k=>by rw [xB,hrl]
 have hokr:∀ k,∀ e∈(iL r k).1,dR e.p:=fun k=>by
  induction k with
  | zero=>intro e he; exact hok e (by rw [hm]; exact List.mem_append_left _ (List.mem_append_right _ he))
  | succ k ih =>
   rw [oN];unfold mZ
   split
   ·exact ih
   ·rename_i e0 he0
    split
    ·exact ih
    ·intro e he;rcases List.mem_or_eq_of_mem_set he with h1|h1
     ·exact ih e h1
     ·rw [h1]; exact ih e0 (aA he0)
 rw [ha,hr,hc];have hgw:g<w.heap.size:=by
  obtain⟨cur,hg⟩:=jL ho;exact hg.lt
 have hBg:B<=g:=acQ ho;have a7:Ra w0 w w B g n cap a c (iL r 0) (J aj 0 0):=⟨⟨l,ho,by rw [show a++(iL r 0).1++c=m from hm.symm]; exact hA⟩,⟨[],iO _ _,.nil⟩,But.of_below (aY _ _),fun _ _ _ h=>h⟩;have cL:=D hw0;have cV:=D hokr;have cU:=D hrr;have cR:=D hra;have RL:=D hrl;have a0:=D hal;have a7:=D a7;have cF:=D (show w0.heap.size<=g from by omega);clear hw0 ho hA hra hok hm ha hr hc hmn hokr hrr l m hrl hal;go_enter Tryz.func159,Tryz.ntmps159;go_wp2
 go_loopw [3,7] (fun v i wr=>∃ k:Nat,k<=K/\i=O Q k/\Ra w0 w wr B g n cap a c (iL r k) v) (fun _ i _=>K-(intOf i).toNat)
 case atStart=>exact⟨0,bG _,rfl,a7.out⟩
 case round =>
  obtain⟨k,hk,rfl,hRa⟩:=hrel;have T:=D hRa;have hwr:Below w0.heap.size w0 wr:=hRa.low _ _ cF.out cL.out;have cP:=D hwr;clear hRa hwr a7;by_cases hlt:k<K
  ·obtain⟨anr,ant⟩:=cR.out (by omega);subst anr;subst ant;obtain⟨L,hL,hLA⟩:=T.out.row;have hRk:=cU.out k;obtain⟨s,hs⟩:∃ s,iL r k=s:=⟨_,rfl⟩;have b9:=D (oN r k);have a3:=D (cV.out k);rw [hs] at hLA hRk T b9 a3;obtain⟨r',us⟩:=s;simp only at hLA hRk a3;obtain⟨e,he⟩:∃ e,r'[k]?=U e:=⟨_,ah (by omega)⟩;have hM:(a++r'++c)[f+k]?=U e:=by
    rw [aD,aL (by rw [a0.out]; omega),a0.out,aF,aN (by omega)];exact he
   obtain⟨y,hy,hx⟩:=hLA.at (f+k) e hM;have ix:=UW g f k K (cap-f) hlt;have cc:=kE mM hL hy wr (aY _ _);obtain⟨cur,hbx⟩:=jL hL;have fr:=hbx.fr ((f+k) * 7+6);have zl:=hbx.lt;obtain⟨y1,y2,y3,y4,⟨yo,yn,yc⟩,y6,y7⟩:=y;have c0:=cc 0 _ rfl;have c1:=cc 1 _ rfl;have c2:=cc 2 _ rfl;have c3:=cc 3 _ rfl;have c4:=cc 4 _ rfl;have c5:=cc 5 _ rfl;have c6:=cc 6 _ rfl;simp [Addr.add,EN] at c0 c1 c2 c3 c4 c5 c6;have CUT:=Ju (f:=f) (K:=K) hL hfK (by omega);have CUA:eY (jJ wr) ((L.drop f).take K) r':=by
    have h:=((hLA.drop f).take K).mono fun _ _ q=>Dq q cP.out;rw [aD,List.drop_left' a0.out,List.take_left' hRk] at h;exact h
   obtain⟨t,ht⟩:∃ t,Fh r' e.p=t:=⟨_,rfl⟩;have a6:=D (Ae (U ⟨g,f * 7,aj⟩,K,cap-f) (J yo yn yc) _ r' e.p wr CUT CUA (Dq hx cP.out).2.2.2.2 a3.out (a3.out e (aA he)));rw [ht] at a6;have a8:=D hx;have cG:=D hL;have cX:=D hLA;have cM:=D hy;have cA:=D hM;have aE:=D (show iL r (k+1)=if y7=aP\/t=aP then (r',us) else (r'.set k (Ez e),us++[Ez e]) by
    rw [b9.out];unfold mZ;simp only [he];rw [ht,<- hx.2.2.2.1])
   have hw3:IntKind.i64.wrap ((k:Int)+1)=(k:Int)+1:=IntWalk.i64_in _ (by omega);have cY:=D hs;have cH:=D hRk;clear cc hbx CUT CUA ht hx hL hLA hy hM he b9 hs hRk;cases y7
   ·go_wp2_with fail;refine a6.out.mono ?_;rintro e3 w3 ⟨rfl,hb⟩;clear a6;cases t
    ·have d6:=(hb.cell (p:=⟨g,(f+k) * 7+6,aj⟩) zl).trans c6;have f6:w3.frozen? ⟨g,(f+k) * 7+6,aj⟩=aT:=(hb.frozen (p:=⟨g,(f+k) * 7+6,aj⟩) zl).trans fr;have z3:g<w3.heap.size:=bg zl hb.size;obtain⟨lu,hu1,hu2⟩:=T.out.up;obtain⟨o4,_,_⟩:=Qz (Bk.dI cG.out hb) cM.out;have bt:=eF w3 g ((f+k) * 7+6) (aK aP);obtain⟨asg,hg3⟩:=jL (Bk.dI cG.out hb);have G1:∀ x z,tK w0 B wr x z->tK w0 B (w3.setCell ⟨g,(f+k) * 7+6,aj⟩ (aK aP)) x z:=fun x z q=>(q.grow hb).but bt hg3 (by decide);have G2:∀ x z,tK w0 w.heap.size wr x z->tK w0 w.heap.size (w3.setCell ⟨g,(f+k) * 7+6,aj⟩ (aK aP)) x z:=fun x z q=>(q.grow hb).but bt hg3 (by decide);have bJ:=D o4;have cI:=D (eY.set2 (f+k) (cX.out.mono G1) (show tK w0 B (w3.setCell ⟨g,(f+k) * 7+6,aj⟩ (aK aP)) (y1,y2,y3,y4,(yo,yn,yc),y6,aP) (Ez e) from ⟨(G1 _ _ a8.out).1,(G1 _ _ a8.out).2.1,(G1 _ _ a8.out).2.2.1,rfl,(G1 _ _ a8.out).2.2.2.2⟩));have bQ:=D (eZ (Bk.dI hu1 hb) g ((f+k) * 7+6) (aK aP) hgw);have cT:=D (hu2.mono G2);have cD:=D ((T.out.but.trans (But.of_below hb)).trans bt);have cN:=D (show ∀ B' W,B'<=g->Below B' W w->Below B' W (w3.setCell ⟨g,(f+k) * 7+6,aj⟩ (aK aP)) from fun B' W h1 h2=>((T.out.low B' W h1 h2).trans (hb.mono (by have:=zl; omega))).setCell (p:=⟨g,(f+k) * 7+6,aj⟩) h1 _);have cC:=D (show (L.set (f+k) (y1,y2,y3,y4,(yo,yn,yc),y6,aP))[f+k]?=U (y1,y2,y3,y4,(yo,yn,yc),y6,aP) from aZ (aB.1 cM.out).1);have cS:=D (show lu.length<=1000 by
      have h1:lu.length=us.length:=hu2.len;have h2:=G9 r k;rw [cY.out] at h2;simp only at h2;omega)
     have cQ:=D (iD (a3.out e (by
      have h:=cA.out;rw [aD,aL (by rw [a0.out]; omega),a0.out,aF,aN (by rw [cH.out]; exact hlt)] at h;exact aA h)))
     have cW:=D (show (a++r'++c).set (f+k) (Ez e)=a++r'.set k (Ez e)++c by
      rw [aD,List.set_append_right _ _ (by rw [a0.out]; omega),a0.out,aF,List.set_append_left _ _ (by rw [cH.out]; exact hlt),aD])
     clear hu1 hu2 o4 bt hg3 G1 G2 c0 c1 c2 c3 c4 c5 c6 fr;go_upto_region 7 with fail;clear d6 f6 z3 hb;generalize w3.setCell ⟨g,(f+k) * 7+6,aj⟩ (aK aP)=w4 at *;have cc:=kE mM bJ.out cC.out w4 (aY _ _);have c0:=cc 0 _ rfl;have c1:=cc 1 _ rfl;have c2:=cc 2 _ rfl;have c3:=cc 3 _ rfl;have c4:=cc 4 _ rfl;have c5:=cc 5 _ rfl;have c6:=cc 6 _ rfl;simp [Addr.add,EN] at c0 c1 c2 c3 c4 c5 c6;have a5:=D (show tK w0 B w4 (y1,y2,y3,y4,(yo,yn,yc),y6,aP) (Ez e) from by
      obtain⟨y',h1,h2⟩:=cI.out.at (f+k) (Ez e) (aZ (aB.1 cA.out).1);rw [cC.out] at h1;rw [aQ h1];exact h2)
     have cJ:=D (Bn (y1,y2,y3,y4,(yo,yn,yc),y6,aP) e.p w4 (Dq a5.out (cN.out _ _ cF.out cL.out)).2.2.2.2 cQ.out);clear cc;go_wp2_with fail;refine cJ.out.mono ?_;rintro e5 w5 ⟨⟨⟨c7,c8,c9⟩,rfl,ho⟩,hb⟩;have sz4:=cD.out.2;obtain⟨v',w',r7,o',a',bl,hof⟩:=ain (w0:=w0) (B:=w.heap.size) (y1,y2,y3,y4,(c7,c8,c9),y6,aP) (Ez e) (Bk.dI bQ.out hb) (cT.out.mono fun _ _ q=>q.grow hb) ⟨a5.out.1,a5.out.2.1,a5.out.2.2.1,a5.out.2.2.2.1,Or.inr (dM ho sz4)⟩ cS.out (by have:=hb.size; omega);have nb:=gN w5 (aM (jr (y1,y2,y3,y4,(c7,c8,c9),y6,aP)).toArray 67);have hbk:=Jt bQ.out;have a4:=D (show Ra w0 w w' B g n cap a c (iL r (k+1)) v' from by
      rw [aE.out,if_neg (by simp)];have hg5:=jL (Bk.dI (Bk.dI bJ.out hb) nb);refine⟨⟨_,acP hof (Bk.dI (Bk.dI bJ.out hb) nb) fun e=>?_,?_⟩,⟨_,o',a'⟩,But.off ((cD.out.trans (But.of_below hb)).trans (But.of_below nb)) hof hbk,fun B' W h1 h2=>bl B' W (by omega) ((cN.out B' W h1 h2).trans (hb.mono (by omega)))⟩
      ·have:=hbk g e.symm;omega
      ·rw [<- cW.out];have tg:=jF (Bk.dI (Bk.dI bQ.out hb) nb);exact cI.out.mono fun _ _ q=>(((q.grow hb).grow nb).off hof tg (by decide)))
     clear cJ hb ho o' a' bl hof nb hbk c0 c1 c2 c3 c4 c5 c6 ix sz4;go_wp2_with (first | (at_builtin; refine wpList_append_run rfl _ _ 27 rfl rfl rfl r7 ?_) | fail)
     go_roundw
     case rel=>exact⟨k+1,by omega,by go_num,a4.out⟩
     case measure=>simp [intOf]; omega
    ·have a4:=D (show Ra w0 w w3 B g n cap a c (iL r (k+1)) _ from by
      rw [aE.out,if_pos (Or.inr rfl)];obtain⟨q1,q2,q3,q4⟩:=T.out;exact⟨by obtain⟨l,h1,h2⟩:=q1; exact⟨l,Bk.dI h1 hb,h2.mono fun _ _ q=>q.grow hb⟩,by obtain⟨l,h1,h2⟩:=q2; exact⟨l,Bk.dI h1 hb,h2.mono fun _ _ q=>q.grow hb⟩,q3.trans (But.of_below hb),fun B' W h1 h2=>(q4 B' W h1 h2).trans (hb.mono (by have:=zl; omega))⟩)
     clear hb c0 c1 c2 c3 c4 c5 c6 fr ix;go_wp2
     go_roundw
     case rel=>exact⟨k+1,by omega,by go_num,a4.out⟩
     case measure=>simp [intOf]; omega
   ·clear a6;have a4:=D (show Ra w0 w wr B g n cap a c (iL r (k+1)) _ from by
     rw [aE.out,if_pos (Or.inl rfl)];exact T.out)
    go_wp2
    go_roundw
    case rel=>exact⟨k+1,by omega,by go_num,a4.out⟩
    case measure=>simp [intOf]; omega
  ·obtain rfl:K=k:=by omega
   obtain⟨lu,hu,_⟩:=T.out.up;obtain⟨I9,Ja,hv⟩:=(Row.dJ hu).len;subst hv;clear hu;go_wp2;go_ret;exact⟨(I9,_,Ja),rfl,T.out⟩
theorem UZ {w:aJ} {B g n cap k:Nat} {l:List jk} (ho:jH w B (J (U ⟨g,0,aj⟩) n cap) l) (hk:k<n) (ty:TypeId) :
  ∃ w',(Builtin.append_ #[27,27] ty #[J (U ⟨g,0,aj⟩) k cap,J (U (if cap=k+1 then ⟨g,0,aj⟩ else ⟨g,(k+1) * 7,aj⟩)) (n-(k+1)) (cap-(k+1))]).run au w=.ok (J (U ⟨g,0,aj⟩) (n-1) cap) w' /\
   jH w' B (J (U ⟨g,0,aj⟩) n cap) (cutAt l k++l.drop (n-1))/\But g w w'/\(∀ B' W,B'<=g->Below B' W w->Below B' W w'):=by
 have hl:l.length=n:=gL ho;rcases gB ho with⟨h1,_⟩|⟨g',cap',cur,h1,h2,h3,h4,h5,h6,h7⟩
 ·cases h1
 ·obtain⟨rfl,_,rfl⟩:g=g'/\n=l.length/\cap=cap':=by simpa using h1
  obtain⟨i,i1,i2,i3,i4⟩:=mM.info;have hE:EN.n=7:=rfl;have JM:i.size=7:=i3;rw [hl] at h4 h7;rw [hE] at h6 h7;have hd:(l.drop (k+1)).length=n-(k+1):=by rw [ay,hl]
  have U0:(flat EN (l.drop (k+1))).length=(n-(k+1)) * 7:=by rw [eD mM,hd,hE]
  have hsz:cur.toList.length=cap * 7:=by rw [Array.length_toList]; exact h6
  have hcell:∀ j u,(flat EN (l.drop (k+1)))[j]?=U u->w.cell? ((if cap=k+1 then (⟨g,0,aj⟩:bM) else ⟨g,(k+1) * 7,aj⟩).add j)=U u:=fun j u hj=>by
   have hlt:=(aB.1 hj).1;rw [U0] at hlt;rw [if_neg (by omega)];exact xL mM h3 (by rw [hl,hE]; exact h7) (k+1) j u hj
  have hr:=run_append_room (P:=au) w 27 ty 67 i mM.hu i1 g k cap cur h3 _ (n-(k+1)) (cap-(k+1)) (flat EN (l.drop (k+1))) (by rw [U0,JM]) hcell (nR mM _) (by omega) (by rw [U0,JM,h6]; omega);rw [show k+(n-(k+1))=n-1 by omega] at hr;refine⟨_,hr,oI mM ?_ h2 (dK.set h3 _) h4 h5 ?_ ?_,⟨fun j _ hne=>setRow_other w g j _ hne,by simp⟩,fun B' W hB hb=>Rw.below_setRow hb hB _⟩
  ·rw [aC,ay];unfold cutAt;rw [aC,ak,hd,hl];omega
  ·rw [List.size_toArray,aC,aC,ak,ay,U0,hsz,JM,hE];omega
  ·have t1:cur.toList.take (k * 7)=flat EN (l.take k):=by
    rw [<- qb mM,<- h7,List.take_take,hE,Nat.min_eq_left (by omega)]
   have t2:(cur.toList.drop ((n-1) * 7)).take 7=flat EN (l.drop (n-1)):=by
    rw [<- yX mM,<- h7,hE,List.drop_take,show n * 7-(n-1) * 7=7 by omega]
   rw [JM,hE,U0,show k * 7+(n-(k+1)) * 7=(n-1) * 7 by omega,t1];have e1:(flat EN (l.take k)++flat EN (l.drop (k+1))).length=(n-1) * 7:=by
    rw [aC,U0,eD mM,ak,hE,hl];omega
   rw [List.take_append,e1,List.take_of_length_le (by rw [e1]; omega),show n * 7-(n-1) * 7=7 by omega,t2];unfold cutAt;rw [gK,gK]
theorem YT {l:List jk} {n k:Nat} (hl:l.length=n) (hk:k<n):(cutAt l k++l.drop (n-1)).take (n-1)=cutAt l k:=by
 have h:(cutAt l k).length=n-1:=by
  unfold cutAt;rw [aC,ak,ay,hl];omega
 rw [<- h,bK]
theorem slice3 (a:bM) (f e len cap:Nat) (h:f<=e) (h2:e<=len) (h3:len<=cap) (w:aJ):(aV 27 (J (U a) len cap) (U (O Q f)) (U (O Q e)) (U (O Q len))).run au w=.ok (J (U (if len=f then a else a.add (f * 7))) (e-f) (len-f)) w:=by
 obtain⟨i,i1,i2,i3,i4⟩:=mM.info;have i1':Tryz.prog.info? 67=U i:=i1;have hu':Tryz.prog.underlying 27=U (.slice 67):=mM.hu;have JM:i.size=7:=i3;by_cases he:len=f
 ·subst he;obtain rfl:e=len:=by omega
  simp [go_sem,hu',sizeOf,typeInfo,i1',JM,h3]
 ·simp [go_sem,hu',sizeOf,typeInfo,i1',JM,he,h,h2,h3]
theorem acR (B g n cap k:Nat) (l:List jk) (w:aJ) (ho:jH w B (J (U ⟨g,0,aj⟩) n cap) l) (hk:k<n) (hn:n<=1000) :
  bH au 158 #[J (U ⟨g,0,aj⟩) n cap,O Q k,O Q ((k:Int)+1)] w fun e w'=>e=aR (J (U ⟨g,0,aj⟩) (n-1) cap) /\
   jH w' B (J (U ⟨g,0,aj⟩) (n-1) cap) (cutAt l k)/\But g w w'/\(∀ B' W,B'<=g->Below B' W w->Below B' W w'):=by
 have hl:l.length=n:=gL ho;have hnc:n<=cap:=by
  rcases gB ho with⟨h1,_⟩|⟨g',cap',cur,h1,_,_,h4,_⟩
  ·cases h1
  ·obtain⟨_,_,rfl⟩:g=g'/\n=l.length/\cap=cap':=by simpa using h1
   rw [hl] at h4;exact h4
 have s3:=fun w=>slice3 ⟨g,0,aj⟩ k (k+1) n cap (by omega) (by omega) hnc w;rw [show (((k+1:Nat):Int))=(k:Int)+1 by omega] at s3;have s1:∀ w,(aV 27 (J (U ⟨g,0,aj⟩) n cap) aj (U (O Q k)) aj).run au w=.ok (J (U ⟨g,0,aj⟩) k cap) w:=fun w=>jZ mM ⟨g,0,aj⟩ k n cap (by omega) w;have s2:∀ w,(aV 27 (J (U ⟨g,0,aj⟩) n cap) (U (O Q ((k:Int)+1))) aj aj).run au w=.ok (J (U (if cap=k+1 then ⟨g,0,aj⟩ else ⟨g,(k+1) * 7,aj⟩)) (n-(k+1)) (cap-(k+1))) w:=fun w=>by
  have h:=xK mM ⟨g,0,aj⟩ (k+1) n cap (by omega) w;rw [show (((k+1:Nat):Int))=(k:Int)+1 by omega,lY] at h;exact h
 have hne:((k:Int) == (k:Int)+1)=aT:=by simp; omega
 obtain⟨w1,r1,o1,b1,l1⟩:=UZ (Bk.dI ho (aY _ _).drew) hk 27;obtain⟨p,hp⟩:∃ p:bM,(if cap=k+1 then (⟨g,0,aj⟩:bM) else ⟨g,(k+1) * 7,aj⟩)=p:=⟨_,rfl⟩;obtain⟨q,hq⟩:∃ p:bM,(if n=k then (⟨g,0,aj⟩:bM) else (⟨g,0,aj⟩:bM).add (k * 7))=p:=⟨_,rfl⟩;rw [hp] at s2 r1;rw [hq] at s3;obtain⟨m,hm⟩:∃ m,n=m+1:=⟨n-1,by omega⟩;obtain⟨w2,r2_,o2,b2,l2⟩:=GJ mM (by decide) o1 (show n-1<n by omega) 0;rw [YT hl hk] at o2;have T:=D o2;have a0:=D (show But g w w2 from ((But.of_below (aY w.heap.size w).drew).trans b1).trans b2);have a3:=D (show ∀ B' W,B'<=g->Below B' W w->Below B' W w2 from fun B' W hB hb=>l2 B' W hB (l1 B' W hB hb.drew));have r2:(Builtin.clear_ #[27] 0 #[J (U ⟨g,(n-1) * 7,aj⟩) (n-(n-1)) (cap-(n-1))]).run au w1=.ok (.tuple #[]) w2:=r2_;clear hp hq o1 b1 l1 o2 b2 l2 ho hl;generalize n-(k+1)=x1 at s2 r1;generalize cap-(k+1)=x2 at s2 r1;generalize k+1-k=x3 at s3;generalize n-k=x4 at s3;rw [show n-(n-1)=1 by omega] at r2;clear r2_;subst hm;rw [Nat.add_sub_cancel] at *;go_enter Tryz.func158,Tryz.ntmps158;go_wp2
 go_region_law (refine fB rfl (.tmp 22) (.tmp 25) 27 rfl (v:=J (U ⟨g,0,aj⟩) k cap) (xv:=J (U p) x1 x2) rfl rfl r1 ?_)
 all_goals simp only [Exit.then]
 all_goals apply_assumption
 all_goals
  go_wp2_with (first | (at_builtin; refine zN rfl _ _ rfl rfl r2 ?_) | fail);go_ret;exact⟨rfl,T.out,a0.out,a3.out⟩
end Sb
end Go.Proofs.YtghlpefopidlaaaGreat
