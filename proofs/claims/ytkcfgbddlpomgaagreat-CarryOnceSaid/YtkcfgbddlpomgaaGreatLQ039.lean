/-
  branch of package su. Conditions as told.
-/
import Derived.Test.YtkcfgbddlpomgaaGreatLQ037
import Derived.Test.YtkcfgbddlpomgaaGreatLQ032
set_option maxRecDepth 100000
set_option maxHeartbeats 64000000
open _root_.Bool renaming false->ak,true->aR
open _root_.Go renaming World->aH,bodyPost_ret->aN,cell_regrown->aT,Calls->aX,Value->bf
open Go.Ending renaming returned->aM
open Go.IntKind renaming i64->L
open Go.Lib renaming hid->D
open Go.Obj renaming cells->au
open Go.Proofs.Tryz renaming prog->aA,results22->aK
open Go.RowKit.Below renaming refl->aP
open Go.Value renaming slice->J,int->K,bool->aj,pointer->aZ,agg->bn
open _root_.List renaming getElem?_cons_zero->O,getElem?_cons_succ->Q,getElem?_toArray->U,getElem?_eq_getElem->Z,mem_of_getElem?->aB,length_take->aD,getElem?_eq_some_iff->aF,takeWhile_cons->aG,takeWhile_sublist->aJ,length_drop->aL,getElem?_drop->aO,take_append_drop->aS,getElem?_map->aU,append_assoc->aV,length_cons->aW
open _root_.Nat renaming le_trans->aC,le_refl->aQ,zero_le->aY,lt_or_ge->bg
open _root_.Option renaming none->ah,some->ay
open Option.some renaming inj->aI
namespace Go.Proofs.YtkcfgbddlpomgaaGreat
namespace Sb
open Go.RowKit Go.Sort Rw YtkcfgbddlpomgaaGreat.Nm Pr Bk Av
def cutV (v:Sl) (f k:Nat):Sl:=match v with
 | (ay a,_,c)=>(ay (if c=f then a else a.add (f * 7)),k,c-f)
 | (ah,_,_)=>(ah,0,0)
theorem Ub {α:Type} (p:α->Bool):∀ (l:List α) (j:Nat) (y:α),j<(l.takeWhile p).length->l[j]?=ay y->p y=aR
 | [],_,_,_,h=>by simp at h
 | a::l,j,y,hj,h=>by
  by_cases ha:p a=aR
  ·rw [aG,if_pos ha,aW] at hj;cases j with
   | zero=>rw [<- aI (show ay a=ay y from h)]; exact ha
   | succ j=>exact Ub p l j y (by omega) (by simpa using h)
  ·rw [aG,if_neg ha] at hj;simp at hj
theorem Uc {α:Type} (p:α->Bool):∀ (l:List α) (y:α),l[(l.takeWhile p).length]?=ay y->p y=ak
 | [],_,h=>by simp at h
 | a::l,y,h=>by
  by_cases ha:p a=aR
  ·rw [aG,if_pos ha,aW] at h;exact Uc p l y (by simpa using h)
  ·rw [aG,if_neg ha] at h;rw [<- aI (show ay a=ay y from h)];simpa using ha
theorem Pn (a:Addr) (f e len cap:Nat) (h:f<=e) (h6:e<=cap) (w:aH):(Instr.sliceAt 30 (J (ay a) len cap) (ay (K L f)) (ay (K L e)) ah).run aA w=.ok (dP (cutV (ay a,len,cap) f (e-f))) w:=by
 have h1:(f:Int)<=(e:Int):=by omega
 have h3:(e:Int)<=cap:=by omega
 obtain⟨i,i1,i2,i3,i4⟩:=nR.info;have i1':Tryz.prog.info? 68=ay i:=i1;have hu':Tryz.prog.underlying 30=ay (.slice 68):=nR.hu;have i3':i.size=7:=i3;by_cases he:cap=f
 ·subst he;obtain rfl:e=cap:=by omega
  simp [go_sem,hu',sizeOf,typeInfo,i1',i3',cutV]
 ·simp [go_sem,hu',sizeOf,typeInfo,i1',i3',cutV,he,h,h6]
theorem Mi {W:aH} {v:Sl} {l:List iF} (h:kC W (dP v) l) (f k:Nat) (hk:f+k<=l.length) :
  (∀ w,(Instr.sliceAt 30 (dP v) (ay (K L f)) (ay (K L ((f+k:Nat):Int))) ah).run aA w=.ok (dP (cutV v f k)) w)/\kC W (dP (cutV v f k)) ((l.drop f).take k):=by
 obtain⟨so,sn,sc⟩:=v;rcases h with⟨rfl,hv⟩|⟨a,cap,hv,h2,h3,h4⟩
 ·obtain⟨rfl,rfl,rfl⟩:so=ah/\sn=0/\sc=0:=by simpa using hv
  obtain⟨rfl,rfl⟩:f=0/\k=0:=by simp at hk; omega
  refine⟨fun w=>?_,Or.inl ⟨rfl,rfl⟩⟩;obtain⟨i,i1,i2,i3,i4⟩:=nR.info;have i1':Tryz.prog.info? 68=ay i:=i1;have hu':Tryz.prog.underlying 30=ay (.slice 68):=nR.hu;simp [go_sem,hu',sizeOf,typeInfo,i1',cutV]
 ·obtain⟨rfl,rfl,rfl⟩:so=ay a/\sn=l.length/\sc=cap:=by simpa using hv
  refine⟨fun w=>by have h:=Pn a f (f+k) l.length sc (Nat.le_add_right _ _) (aC hk h2) w; rwa [Nat.add_sub_cancel_left] at h,?_⟩;refine Or.inr ⟨(if sc=f then a else a.add (f * 7)),sc-f,?_,?_,by omega,fun j u hj=>?_⟩
  ·have e:((l.drop f).take k).length=k:=by rw [aD,aL]; omega
   rw [e]
   rfl
  ·rw [aD,aL]; omega
  ·have hlt:=(aF.1 hj).1;have hlen:(flat EN ((l.drop f).take k)).length=k * 7:=by
    rw [dX nR,aD,aL];show _ * 7=_;rw [show min k (l.length-f)=k by omega]
   rw [hlen] at hlt;rw [if_neg (by omega),add_add];refine h4 _ u ?_;have e1:flat EN l=flat EN (l.take f)++(flat EN ((l.drop f).take k)++flat EN ((l.drop f).drop k)):=by
    rw [<- gG,aS,<- gG,aS]
   have e2:(flat EN (l.take f)).length=f * 7:=by
    rw [dX nR,aD];show _ * 7=_;rw [show min f l.length=f by omega]
   rw [e1,List.getElem?_append_right (by rw [e2]; omega),e2,show f * 7+j-f * 7=j by omega,List.getElem?_append_left (by rw [hlen]; exact hlt)];exact hj
theorem wO (m:List En) (t:eG):jD m t+(qF m t).length<=m.length:=by
 have h1:(qF m t).length<=(m.drop (jD m t)).length:=(aJ _).length_le;have h2:jD m t<=m.length:=(aJ _).length_le;rw [aL] at h1;omega
theorem z8 (v:Sl) (l:List iF) (m:List En) (t:eG) (w:aH) (hv:kC w (dP v) l) (hA:eu (je w) l m) (hr:kg m) (hl:l.length<=1000) :
  aX aA 46 #[dP v,lV t] w fun e w'=>e=aM (dP (cutV v (jD m t) (qF m t).length))/\Below w.heap.size w w':=by
 have hfk:=wO m t;have hML:l.length=m.length:=hA.len;obtain⟨f,hf⟩:∃ f,jD m t=f:=⟨_,rfl⟩;obtain⟨k,hk⟩:∃ k,(qF m t).length=k:=⟨_,rfl⟩;rw [hf,hk] at hfk ⊢;have RC:=D ((Mi hv f k (by omega)).1);obtain⟨so,n,sc⟩:=v;generalize cutV (so,n,sc) f k=z at RC ⊢;obtain⟨z1,z2,z3⟩:=z;have hn:l.length=n:=rZ hv;obtain⟨c,d⟩:=t;obtain⟨h0,X,Y⟩:=gQ w #[J so n sc] #[K L c,K L d] 30 38;have BB:=D h0;have HV:=D (hv.on h0);have HA:=D (hA.mono fun _ _ q=>q.on h0);have X1:=D X;have Y1:=D Y;have x0:=X.cell 0;simp only [U,O] at x0;have FL:∀ (i:Nat) (e:En),i<f->m[i]?=ay e->dZ e.tree (c,d)=aR:=fun i e hi he=>Ub (fun e:En=>dZ e.tree (c,d)) m i e (by unfold jD at hf; omega) he;have FH:∀ (i:Nat) (e:En),f<=i->m[i]?=ay e->dZ e.tree (c,d)=ak:=fun i e hi he=>by
  refine JL (c,d) hr e ?_;rw [<- zw];unfold jD at hf;rw [hf];exact aB (show (m.drop f)[i-f]?=ay e by rw [aO,show f+(i-f)=i by omega]; exact he)
 have BL:=D (show ∀ (i:Nat) (e:En),i<k->m[f+i]?=ay e->e.tree=(c,d) from fun i e hi he=>by
  have:=Ub (fun e:En=>decide (e.tree=(c,d))) (m.drop f) i e (by unfold qF at hk; rw [hf] at hk; omega) (by rw [aO]; exact he);exact of_decide_eq_true this)
 have BH:=D (show ∀ (e:En),m[f+k]?=ay e->e.tree≠(c,d) from fun e he=>by
  have:=Uc (fun e:En=>decide (e.tree=(c,d))) (m.drop f) e (by unfold qF at hk; rw [hf] at hk; rw [hk,aO]; exact he);exact of_decide_eq_false this)
 have HF:=D (show ∀ i,i<n->∀ W,Below ((w.alloc (au #[J so n sc] 30)).alloc (au #[K L c,K L d] 38)).heap.size ((w.alloc (au #[J so n sc] 30)).alloc (au #[K L c,K L d] 38)) W ->
   aX aA 79 (#[K L i]++#[aZ (ay ⟨w.heap.size,0,ah⟩),aZ (ay ⟨w.heap.size+1,0,ah⟩)]) W fun e w'=>e=aM (aj ((fun i=>match l[i]? with | some y=>!dZ (y.1,y.2.1) (c,d) | none=>aR) i))/\Below W.heap.size W w' from fun i hi W hb=>by
  obtain⟨y,hy⟩:∃ y,l[i]?=ay y:=⟨_,Z (by omega)⟩;refine WY i _ _ so n sc l (c,d) y _ W (HV.out.on hb) hn hy ?_ (X1.out.on hb) (Y1.out.on hb);simp only [hy])
 have HLO:=D (show ∀ i,i<f->(fun i=>match l[i]? with | some y=>!dZ (y.1,y.2.1) (c,d) | none=>aR) i=ak from fun i hi=>by
  obtain⟨y,hy⟩:∃ y,l[i]?=ay y:=⟨_,Z (by omega)⟩;obtain⟨e,he,hke,hx⟩:=kH HA.out hy;have h1:=FL i e hi he;rw [<- hx.1] at h1;simp only [hy,h1]
  rfl)
 have HHI:=D (show ∀ i,f<=i->i<n->(fun i=>match l[i]? with | some y=>!dZ (y.1,y.2.1) (c,d) | none=>aR) i=aR from fun i hi hi2=>by
  obtain⟨y,hy⟩:∃ y,l[i]?=ay y:=⟨_,Z (by omega)⟩;obtain⟨e,he,hke,hx⟩:=kH HA.out hy;have h1:=FH i e hi he;rw [<- hx.1] at h1;simp only [hy,h1]
  rfl)
 have HN:=D hn;have ln:n<=1000:=by omega
 have aiS:f+k<=n:=by omega
 clear hv hA h0 X Y hk hf hl hn hr hfk hML FL FH;go_enter Tryz.func46,Tryz.ntmps46;go_wp2_with fail;generalize (w.alloc (au #[J so n sc] 30)).alloc (au #[K L c,K L d] 38)=W at *;refine (zS 79 #[aZ (ay ⟨w.heap.size,0,ah⟩),aZ (ay ⟨w.heap.size+1,0,ah⟩)] WW n f _ W (by omega) HF.out (by omega) HLO.out HHI.out).mono ?_;rintro e1 w1 ⟨rfl,hb⟩;have B1:=D hb;clear x0 HF HLO HHI hb;go_wp2
 go_loopw [6] (fun i wr=>∃ j:Nat,j<=k/\i=K L ((f+j:Nat):Int)/\Below W.heap.size W wr) (fun i _=>f+k-(intOf i).toNat)
 case atStart=>exact⟨0,aY _,by simp,B1.out⟩
 case round =>
  obtain⟨j,hj,rfl,hbe⟩:=hrel;have BE:=D hbe;have a0:=aT (show wr.cell? ⟨w.heap.size,0,ah⟩=ay (J so n sc) from (X1.out.on hbe).cell 0);have b0:=aT (show wr.cell? ⟨w.heap.size+1,0,ah⟩=ay (K L c) from (Y1.out.on hbe).cell 0);have b1:=aT (show wr.cell? ⟨w.heap.size+1,1,ah⟩=ay (K L d) from (Y1.out.on hbe).cell 1);have BN:=D (fun dq osq=>BE.out.trans ((below_regrown wr dq osq).mono BE.out.size));clear hbe;by_cases hjk:j<k
  ·obtain⟨y,hy⟩:∃ y,l[f+j]?=ay y:=⟨_,Z (by rw [HN.out]; omega)⟩;obtain⟨p,ix,p0,p1,p2,p3,p4,p5,p6⟩:=zT HV.out rfl HN.out hy BE.out;obtain⟨e,he,_,hx⟩:=kH HA.out hy;have ht:(y.1,y.2.1)=(c,d):=hx.1.trans (BL.out j e hjk he);have hjn:f+j<n:=by omega
   have g4:decide (((f+j:Nat):Int)<(n:Int))=aR:=by simp; omega
   have hw3:IntKind.i64.wrap (((f+j:Nat):Int)+1)=((f+(j+1):Nat):Int):=by rw [IntWalk.i64_in _ (by omega)]; omega
   obtain⟨y1,y2,y3,y4,⟨yo,yn,yc⟩,y6,y7⟩:=y;obtain⟨rfl,rfl⟩:y1=c/\y2=d:=by simpa using ht
   simp only at p0 p1;have e1:=uF y1 y2 y1 y2 aR (by simp);clear p2 p3 p4 p5 p6 hy he hx ht;generalize hq:f+j=q at *;have HQ:=D hq;clear hq;go_wp2;refine wp_region_quiet_below (by kernel_rfl) (by kernel_rfl) ?_
   repeat (go_big_quiet_step (fail))
   refine wpQuiet_nil ?_;intro _ hw';obtain⟨⟨dq,osq⟩,hw''⟩:=hw';subst hw'';go_wp2
   go_roundw
   case rel=>exact⟨j+1,by omega,by rfl,BN.out _ _⟩
   case measure =>
    have hq:=HQ.out;simp [intOf];omega
  ·obtain rfl:j=k:=by omega
   have RC2:=RC.out;by_cases hjn:f+j<n
   ·obtain⟨y,hy⟩:∃ y,l[f+j]?=ay y:=⟨_,Z (by rw [HN.out]; omega)⟩;obtain⟨p,ix,p0,p1,p2,p3,p4,p5,p6⟩:=zT HV.out rfl HN.out hy BE.out;obtain⟨e,he,_,hx⟩:=kH HA.out hy;have ht:(y.1,y.2.1)≠(c,d):=fun q=>BH.out e he (hx.1.symm.trans q);have g4:decide (((f+j:Nat):Int)<(n:Int))=aR:=by simp; omega
    obtain⟨y1,y2,y3,y4,⟨yo,yn,yc⟩,y6,y7⟩:=y;simp only at p0 p1;have e1:=uF y1 y2 c d ak (Bool.eq_false_iff.2 fun h=>ht (by simp at h; rw [h.1,h.2]));clear p2 p3 p4 p5 p6 hy he hx ht;generalize f+j=q at *;go_wp2;refine wp_region_quiet_below (by kernel_rfl) (by kernel_rfl) ?_
    repeat (go_big_quiet_step (fail))
    refine wpQuiet_nil ?_;intro _ hw';obtain⟨⟨dq,osq⟩,hw''⟩:=hw';subst hw'';have a0:=a0 dq osq;go_wp2;go_ret;exact⟨rfl,BB.out.trans ((BN.out _ _).mono BB.out.size)⟩
   ·have g4:decide (((f+j:Nat):Int)<(n:Int))=ak:=by simp; omega
    generalize f+j=q at *;go_wp2;refine wp_region_quiet_below (by kernel_rfl) (by kernel_rfl) ?_
    repeat (go_big_quiet_step (fail))
    refine wpQuiet_nil ?_;intro _ hw';obtain⟨⟨dq,osq⟩,hw''⟩:=hw';subst hw'';have a0:=a0 dq osq;go_wp2;go_ret;exact⟨rfl,BB.out.trans ((BN.out _ _).mono BB.out.size)⟩
end Sb
namespace Sb
open Go.RowKit Go.Sort Rw YtkcfgbddlpomgaaGreat.Nm Pr Bk Av Rl
theorem Ud (Bc bv:bf) (p q:List C5) (w:aH) (ha:fK w Bc p) (hb:fK w bv q) (hp:dQ p) (hq:dQ q) :
  aX aA 107 #[Bc,bv] w fun e w'=>e=aM (aj (mF p q))/\Below w.heap.size w w':=by
 obtain⟨a,na,rfl⟩:=hp;obtain⟨b,nb,rfl⟩:=hq;unfold mF;rw [oH,oH];exact JI Bc bv a b w ha hb na nb
theorem abp {α:Type} (f:α->Bool) {l:List α} (h:∀ (j:Nat) (y:α),j<l.length->l[j]?=ay y->f y=ak):l.any f=ak:=by
 rw [List.any_eq_false];intro e he;obtain⟨j,hj,hje⟩:=List.getElem_of_mem he;simpa using h j e hj (by rw [Z hj,hje])
theorem abq {α:Type} (f:α->Bool) {l:List α} {k:Nat} {y:α} (h:l[k]?=ay y) (hf:f y=aR):l.any f=aR:=by
 rw [List.any_eq_true];exact⟨y,aB h,hf⟩
abbrev cE (p:List C5) (e:En):Bool:=e.up && mF e.p p
theorem Iq (v:Sl) (pv:bf) (l:List iF) (m:List En) (p':List C5) (w:aH) (hs:kC w (dP v) l) (hu:eu (je w) l m) (hp:fK w pv p') (hok:∀ e∈m,dQ e.p) (hop:dQ p') :
  aX aA 83 #[dP v,pv] w fun e w'=>e=aM (aj (Sj m p'))/\Below w.heap.size w w':=by
 have HU:=D hu;have HP:=D hp;have OK:=D hok;have OP:=D hop;obtain⟨pa,pc,rfl⟩:=hp.len;generalize p'.length=pn at *;obtain⟨so,n,sc⟩:=v;have hn:=rZ hs;have HS:=D hs;have lm:=hs.most;unfold maxLen at lm;rw [hn] at lm;have HN:=D hn;clear hu hp hok hop hs hn;go_enter Tryz.func83,Tryz.ntmps83;go_wp2
 go_loopw [9] (fun i wr=>∃ k:Nat,k<=n/\i=K L k/\Below w.heap.size w wr/\∀ (j:Nat) (y:En),j<k->m[j]?=ay y->cE p' y=ak) (fun i _=>n-(intOf i).toNat)
 case atStart=>exact⟨0,aY _,rfl,aP _ _,fun j y h=>by omega⟩
 case round =>
  obtain⟨k,hk,rfl,hbe,hall⟩:=hrel;have BE:=D hbe;have AL:=D hall;clear hbe hall;by_cases hlt:k<n
  ·obtain⟨y,hy⟩:∃ y,l[k]?=ay y:=⟨_,Z (by rw [HN.out]; exact hlt)⟩;obtain⟨q,ix,px⟩:=Px HS.out rfl HN.out hy;obtain⟨p0,p1,p2,p3,p4,p5,p6⟩:=px wr BE.out;obtain⟨e,he,_,hin⟩:=kH HU.out hy;obtain⟨y1,y2,y3,y4,⟨yo,yn,yc⟩,y6,y7⟩:=y;simp only at p0 p1 p2 p3 p4 p5 p6;have NB:=D (fO wr (au #[K L y1,K L y2,K L y3,K L y4,J yo yn yc,K L y6,aj y7] 68));have hw3:IntKind.i64.wrap ((k:Int)+1)=(k:Int)+1:=IntWalk.i64_in _ (by omega);obtain⟨t,ht⟩:∃ r,mF e.p p'=r:=⟨_,rfl⟩;have HV:=D (show cE p' e=(y7 && t) by unfold cE; rw [<- hin.2.2.2.1,ht]);have HE:=D he;have BF:=D (BE.out.trans (NB.out.mono BE.out.size));have CV:=D (Ud (J yo yn yc) (J pa pn pc) e.p p' _ (hin.2.2.2.2.on BF.out) (HP.out.on BF.out) (OK.out _ (aB he)) OP.out);rw [ht] at CV;clear px hy ht he hin;cases y7
   ·clear CV;go_wp2
    go_roundw
    case rel=>exact⟨k+1,by omega,by go_num,BF.out,fun j y' hj h1=>by
     rcases bg j k with h3|h3
     ·exact AL.out j y' h3 h1
     ·obtain rfl:j=k:=by omega
      have e1:=HE.out;rw [h1] at e1;rw [aI e1];exact HV.out.trans (by simp)⟩
    case measure=>simp [intOf]; omega
   ·go_wp2_with fail;refine CV.out.mono ?_;rintro e3 w3 ⟨rfl,hb⟩;have BG:=D (BF.out.trans (hb.mono BF.out.size));clear CV hb p0 p1 p2 p3 p4 p5 p6 ix;cases t
    ·go_wp2
     go_roundw
     case rel=>exact⟨k+1,by omega,by go_num,BG.out,fun j y' hj h1=>by
      rcases bg j k with h3|h3
      ·exact AL.out j y' h3 h1
      ·obtain rfl:j=k:=by omega
       have e1:=HE.out;rw [h1] at e1;rw [aI e1];exact HV.out.trans (by simp)⟩
     case measure=>simp [intOf]; omega
    ·have hd:Sj m p'=aR:=abq (cE p') HE.out (HV.out.trans (by simp));go_wp2;go_ret;exact⟨by rw [hd]; rfl,BG.out⟩
  ·obtain rfl:k=n:=by omega
   have hd:Sj m p'=ak:=abp (cE p') fun j y hj h=>AL.out j y (by rw [<- HN.out,HU.out.len]; exact hj) h;go_wp2;go_ret;exact⟨by rw [hd]; rfl,BE.out⟩
theorem Ue {W:aH} {v:Sl} {l:List iF} {m:List En} (hv:kC W (dP v) l) (hA:eu (je W) l m) (t:eG):kC W (dP (cutV v (jD m t) (qF m t).length)) ((l.drop (jD m t)).take (qF m t).length)/\eu (je W) ((l.drop (jD m t)).take (qF m t).length) (qF m t):=by
 refine⟨(Mi hv _ _ (by rw [hA.len]; exact wO m t)).2,?_⟩;have h:=(hA.drop (jD m t)).take (qF m t).length;have e:(m.drop (jD m t)).take (qF m t).length=qF m t:=by
  unfold qF
  conv=>lhs; arg 2; rw [<- List.takeWhile_append_dropWhile (p:=fun e:En=>decide (e.tree=t)) (l:=m.drop (jD m t))]
  rw [List.take_left]
 rw [e] at h;exact h
theorem Uf (m:List En) (t:eG):∀ e∈qF m t,e∈m:=fun _ he=>List.mem_of_mem_drop ((aJ _).subset he)
theorem Ug (me:Int) (nv av sv ov:bf) (ev:Sl) (l:List iF) (m:List En) (t:eG) (pv:bf) (p':List C5) (w:aH) (hs:kC w (dP ev) l) (hu:eu (je w) l m) (hr:kg m) (hl:l.length<=1000) (hp:fK w pv p') (hok:∀ e∈m,dQ e.p) (hop:dQ p') :
  aX aA 49 #[bn #[K L me,nv,av,sv,dP ev,ov],lV t,pv] w fun e w'=>e=aM (aj (eU m t p'))/\Below w.heap.size w w':=by
 obtain⟨pa,pc,rfl⟩:=hp.len;obtain⟨so,n,sc⟩:=ev;obtain⟨c,d⟩:=t;obtain⟨h0,X,Y⟩:=gQ w #[K L me,nv,av,sv,J so n sc,ov] #[K L c,K L d] 33 38;have B:=D h0;have x4:=X.cell 4;obtain⟨y0,y1⟩:=Y.cs2;simp only [U,O,Q] at x4;have BR:=D (z8 (so,n,sc) l m (c,d) _ (hs.on h0) (hu.mono fun _ _ q=>q.on h0) hr hl);obtain⟨q1,q2⟩:=Ue (hs.on h0) (hu.mono fun _ _ q=>q.on h0) (c,d);have Q1:=D q1;have Q2:=D q2;have HP:=D (hp.on h0);have OK:=D (fun e he=>hok e (Uf m (c,d) e he));have CB:=D (aa5 hr (c,d) p');generalize p'.length=pn at *;generalize eU m (c,d) p'=r at *;generalize cutV (so,n,sc) (jD m (c,d)) (qF m (c,d)).length=z at *;obtain⟨z1,z2,z3⟩:=z;clear h0 X Y hs hu hr hl hp hok q1 q2;go_enter Tryz.func49,Tryz.ntmps49;go_wp2_with fail;generalize (w.alloc (au #[K L me,nv,av,sv,J so n sc,ov] 33)).alloc (au #[K L c,K L d] 38)=W at *;refine BR.out.mono ?_;rintro e1 w1 ⟨rfl,hb⟩;have HB:=D hb;have CV:=D (Iq (z1,z2,z3) (J pa pn pc) _ (qF m (c,d)) p' w1 (Q1.out.on hb) (Q2.out.mono fun _ _ q=>q.on hb) (HP.out.on hb) OK.out hop);clear x4 y0 y1 hb BR;go_wp2_with fail;refine CV.out.mono ?_;rintro e2 w2 ⟨rfl,hb2⟩;go_wp2;go_ret;exact⟨by rw [<- CB.out]; rfl,B.out.trans ((HB.out.trans (hb2.mono HB.out.size)).mono B.out.size)⟩
theorem Dc {w w':aH} {row:Option Nat} (h:w.grownBy w' row):Off row w w':=⟨h.block,h.size⟩
theorem abr {wr w0:aH} {B:Nat} {v:bf} {lu:List iF} {mu:List En} (x:iF) (e:En) (o:jA wr B v lu) (hA:eu (Ak w0 B wr) lu mu) (hx:Ak w0 B wr x e) (hn:lu.length<=1000) (hB:B<=wr.heap.size) :
  ∃ v' w',(Builtin.append_ #[30,30] 30 #[v,J (ay ⟨wr.heap.size,0,ah⟩) 1 1]).run aA (wr.alloc (au (iG x).toArray 68))=.ok v' w'/\jA w' B v' (lu++[x])/\eu (Ak w0 B w') (lu++[x]) (mu++[e]) /\
   (∀ B' W,B'<=B->Below B' W wr->Below B' W w')/\Off v.ownBlock (wr.alloc (au (iG x).toArray 68)) w':=by
 have NB:=fO wr (au (iG x).toArray 68);have hlit:=gZ nR wr [x] 1 rfl (by simp) (iG x).toArray rfl;have o2:jA _ B v lu:=Bk.dx o NB;have hB2:B<=(wr.alloc (au (iG x).toArray 68)).heap.size:=aC hB NB.size;obtain⟨v',w',r',o',gr⟩:=fT nR B o2 (Row.dw hlit) hn (by simp) hB2 30;refine⟨v',w',by simpa [EN] using r',o',?_,fun B' W hB' hb=>?_,Dc gr⟩
 ·have hf:=Dc gr;have hg:=kJ o2;have g:∀ y z,Ak w0 B wr y z->Ak w0 B w' y z:=fun y z q=>(q.grow NB).off hf hg (by decide);exact (hA.mono g).append (.cons (g _ _ hx) .nil)
 ·exact (hb.trans (NB.mono (by have:=hb.size; omega))).grown gr (aC hB' hB2) fun j hj=>aC hB' (o2.lt j hj).1
theorem abt {w0 wr:aH} {B:Nat} {x:iF} {e:En} (h:Ak w0 B wr x e) (hl:Below w0.heap.size w0 wr):je wr x e:=⟨h.1,h.2.1,h.2.2.1,h.2.2.2.1,h.2.2.2.2.row hl⟩
theorem D5 (me:Int) (nv av sv ov:bf) (ev:Sl) (l:List iF) (m:List En) (t:eG) (w:aH) (hs:kC w (dP ev) l) (hu:eu (je w) l m) (hr:kg m) (hl:l.length<=900) (hf:∀ e∈m,e.p.length<=900) :
  aX aA 20 #[bn #[K L me,nv,av,sv,dP ev,ov],lV t] w fun e w'=>(∃ (v':Sl) (lu:List iF),e=aM (dP v')/\kC w' (dP v') lu/\eu (je w') lu (qF m t))/\Below w.heap.size w w':=by
 obtain⟨so,n,sc⟩:=ev;obtain⟨c,d⟩:=t;obtain⟨h0,X,Y⟩:=gQ w #[K L me,nv,av,sv,J so n sc,ov] #[K L c,K L d] 33 38;have B:=D h0;have x4:=X.cell 4;obtain⟨y0,y1⟩:=Y.cs2;simp only [U,O,Q] at x4;have BR:=D (z8 (so,n,sc) l m (c,d) _ (hs.on h0) (hu.mono fun _ _ q=>q.on h0) hr (by omega));obtain⟨q1,q2⟩:=Ue (hs.on h0) (hu.mono fun _ _ q=>q.on h0) (c,d);have hbl:(qF m (c,d)).length<=900:=by have:=wO m (c,d); have:=hu.len; omega
 have HF:=D (fun e he=>hf e (Uf m (c,d) e he));generalize (l.drop (jD m (c,d))).take (qF m (c,d)).length=lb at *;generalize cutV (so,n,sc) (jD m (c,d)) (qF m (c,d)).length=z at *;obtain⟨z1,z2,z3⟩:=z;generalize qF m (c,d)=mb at *;have hn:lb.length=z2:=rZ q1;have HN:=D hn;have hz:z2<=900:=by have:=q2.len; omega
 have Q1:=D q1;have Q2:=D q2;clear h0 X Y hs hu hr hl hf q1 q2 hn hbl;go_enter Tryz.func20,Tryz.ntmps20;go_wp2_with fail;generalize (w.alloc (au #[K L me,nv,av,sv,J so n sc,ov] 33)).alloc (au #[K L c,K L d] 38)=W at *;refine BR.out.mono ?_;rintro e1 w1 ⟨rfl,hb⟩;have HB:=D hb;have R1:=D (Q1.out.on hb);have R2:=D (Q2.out.mono fun _ _ q=>q.on hb);clear x4 y0 y1 BR hb Q1 Q2;go_wp2
 go_loopw [5,13] (fun v i wr=>∃ (k:Nat) (lu:List iF),k<=z2/\i=K L k/\Below w1.heap.size w1 wr/\jA wr w1.heap.size v lu/\eu (Ak w1 w1.heap.size wr) lu (mb.take k)) (fun _ i _=>z2-(intOf i).toNat)
 case atStart=>exact⟨0,[],aY _,rfl,aP _ _,gy _ _,by simpa using eu.nil⟩
 case round =>
  obtain⟨k,lu,hk,rfl,hbe,hown,hall⟩:=hrel;have BE:=D hbe;have OE:=D hown;have AE:=D hall;clear hbe hown hall;by_cases hlt:k<z2
  ·obtain⟨y,hy⟩:∃ y,lb[k]?=ay y:=⟨_,Z (by rw [HN.out]; exact hlt)⟩;obtain⟨q,ix,px⟩:=Px R1.out rfl HN.out hy;obtain⟨p0,p1,p2,p3,p4,p5,p6⟩:=px wr BE.out;obtain⟨e,he,_,hin⟩:=kH R2.out hy;obtain⟨y1,y2,y3,y4,⟨yo,yn,yc⟩,y6,y7⟩:=y;simp only at p0 p1 p2 p3 p4 p5 p6;have NB:=D (fO wr (au #[K L y1,K L y2,K L y3,K L y4,J yo yn yc,K L y6,aj y7] 68));have BF:=D (BE.out.trans (NB.out.mono BE.out.size));have hx:=dK wr #[K L y1,K L y2,K L y3,K L y4,J yo yn yc,K L y6,aj y7] 68;obtain⟨v0,v1,v2,v3,v4,v5,v6⟩:=hx.oq;have hw3:IntKind.i64.wrap ((k:Int)+1)=(k:Int)+1:=IntWalk.i64_in _ (by omega);have CP:=D (D7 (y1,y2,y3,y4,(yo,yn,yc),y6,y7) e.p _ (hin.2.2.2.2.on BF.out) (HF.out e (aB he)));have HI:=D hin;have HE:=D he;clear px hy he hin hx;go_wp2_with fail;refine CP.out.mono ?_;rintro e3 w3 ⟨⟨⟨u1,u2,u3⟩,rfl,ho⟩,hb⟩;have BG:=BF.out.trans (hb.mono BF.out.size);have hl:lu.length=k:=by rw [AE.out.len,aD]; have:=HN.out; have:=R2.out.len; omega
   obtain⟨v',w',r',o',a',bl,_⟩:=abr (w0:=w1) (y1,y2,y3,y4,(u1,u2,u3),y6,y7) e (Bk.dx (Bk.dx OE.out NB.out) hb) (AE.out.mono fun _ _ q=>(q.grow NB.out).grow hb) ⟨HI.out.1,HI.out.2.1,HI.out.2.2.1,HI.out.2.2.2.1,Or.inr (dG ho BF.out.size)⟩ (by omega) (by have:=BG.size; omega);have O2:=D o';have A2:=D a';have B2:=D (bl _ w1 (aQ _) BG);have E2:=D (show mb.take (k+1)=mb.take k++[e] from List.take_succ_eq_append_getElem (aF.1 HE.out).1 ▸ by rw [(aF.1 HE.out).2]);clear CP hb ho BG hl o' a' bl v0 v1 v2 v3 v4 v5 v6 p0 p1 p2 p3 p4 p5 p6 ix NB BF;go_wp2_with (first | (at_builtin; refine wpList_append_run rfl _ _ 30 rfl rfl rfl r' ?_) | fail)
   go_roundw
   case rel=>exact⟨k+1,_,by omega,by go_num,B2.out,O2.out,by rw [E2.out]; exact A2.out⟩
   case measure=>simp [intOf]; omega
  ·obtain rfl:z2=k:=by omega
   have e:mb.take z2=mb:=List.take_of_length_le (by have:=HN.out; have:=R2.out.len; omega);rw [e] at AE;obtain⟨Ai,Aj,hv⟩:=(Row.dw OE.out).len;subst hv;clear e;go_wp2;go_ret;exact⟨⟨(Ai,_,Aj),lu,rfl,Row.dw OE.out,AE.out.mono fun _ _ q=>abt q BE.out⟩,B.out.trans ((HB.out.trans (BE.out.mono HB.out.size)).mono B.out.size)⟩
theorem mD {p:List C5} (h:dQ p):p.length<=900:=by
 obtain⟨a,na,rfl⟩:=h;rw [List.length_map];have:=na.five;omega
theorem Mj {α:Type} {E:Ek α} {W:aH} {B:Nat} {v:bf} {l:List α} (h:Own E W B v l):∀ b,v.ownBlock=ay b->B<=b:=by
 intro b hb;rcases iR h with⟨rfl,_⟩|⟨g',cap',cur,rfl,h2,_⟩
 ·cases hb
 ·obtain rfl:g'=b:=by simpa [Value.ownBlock] using hb
  exact h2
theorem PM.less {w0 wr:aH} {B B':Nat} {v:bf} {p:List C5} (h:PM w0 B wr v p) (hB:B'<=B):PM w0 B' wr v p:=h.imp id fun h=>dG h hB
theorem Cp.less {w0 wr:aH} {B B':Nat} {b:Br} {nv av sv ev ov:Sl} (h:Cp w0 B wr b nv av sv ev ov) (hB:B'<=B):Cp w0 B' wr b nv av sv ev ov where
 near:=dG h.near hB
 seen:=dG h.seen hB
 dM:=by obtain⟨l,h1,h2⟩:=h.dM; exact⟨l,dG h1 hB,h2.mono fun _ _ q=>⟨q.1,q.2.1,PM.less q.2.2 hB⟩⟩
 ent:=by obtain⟨l,h1,h2⟩:=h.ent; exact⟨l,dG h1 hB,h2.mono fun _ _ q=>⟨q.1,q.2.1,q.2.2.1,q.2.2.2.1,PM.less q.2.2.2.2 hB⟩⟩
 own:=by obtain⟨l,h1,h2⟩:=h.own; exact⟨l,dG h1 hB,h2.mono fun _ _ q=>⟨q.1,PM.less q.2 hB⟩⟩
def J4 (b:Br) (e:En):Br×Bool:=match fP b.dM e.tree with
 | none=>(b,ak)
 | some a=>if qU b.ent e.tree e.sub=aR then (b,ak) else if e.from_=a.par/\a.par≠-1 then (b,ak) else
  ({ b with ent:=fM b.ent (eH (b.ent.map fu) (e.tree,e.sub)) { e with up:=!(a.par == -1) && !eU b.ent e.tree e.p } },!(a.par == -1) && !eU b.ent e.tree e.p)
theorem vE {b:Br} (hr:kg b.ent) {e:En}:J4 b e=gP b e:=by
 unfold J4 gP;have ft:=JK hr e.tree e.sub;have ek:fu e=(e.tree,e.sub):=rfl;rw [ek,ft];by_cases h:fD (b.dM.map Ad.id) e.tree=-1
 ·have hn:fP b.dM e.tree=ah:=uh fun j a hj=>Cz (key:=Ad.id) h j a hj;rw [hn];cases b.dM[(fD (b.dM.map Ad.id) e.tree).toNat]? with
  | none=>rfl
  | some a=>simp only; rw [if_pos h]
 ·obtain⟨k,hk⟩:∃ k:Nat,fD (b.dM.map Ad.id) e.tree=k:=⟨(fD (b.dM.map Ad.id) e.tree).toNat,by have:=pJ (b.dM.map Ad.id) e.tree; omega⟩;obtain⟨g1,g2⟩:=wJ hk;rw [aU] at g1;cases ha:b.dM[k]? with
  | none=>rw [ha] at g1; cases g1
  | some a =>
   rw [ha] at g1;have hx:a.id=e.tree:=aI g1;have hf:fP b.dM e.tree=ay a:=rQ ha hx fun j z hj hz=>g2 j z.id hj (by rw [aU,hz]; rfl);rw [hf,hk,Int.toNat_natCast,ha];simp only;rw [if_neg (show ¬ ((k:Int)=-1) by omega)];have e1:(!(a.par == -1))=decide (a.par≠-1):=by by_cases hp:a.par=-1 <;> simp [hp]
   rw [e1];by_cases ht:qU b.ent e.tree e.sub=aR
   ·rw [if_pos ht,if_pos ht,if_pos (by omega)]
   ·rw [if_neg ht,if_neg ht,if_neg (show ¬ ((-1:Int)≠-1) by simp)];by_cases hp:e.from_=a.par/\a.par≠-1
    ·rw [if_pos hp,if_pos ⟨by rw [hp.1]; exact hp.2,hp.1⟩]
    ·rw [if_neg hp,if_neg fun q=>hp ⟨q.2,by rw [<- q.2]; exact q.1⟩]
def Et (W:aH) (P R:Prop) (m:List En) (r:Br×Bool) (e:Ending) (w':aH):Prop:=(∃ nv av sv ev ov:Sl,e=aM (.tuple #[nT r.1.me nv av sv ev ov,aj r.2])/\iA w' r.1 nv av sv ev ov/\(P->kK w' nv r.1.near)/\(R\/r.2=aR->Yl w' r.1 nv av sv ev ov)/\(r.1.ent=m\/∃ (V:aH) (B:Nat),W.heap.size<=B/\Cp (vw V) B w' r.1 nv av sv ev ov))/\Below W.heap.size W w'
theorem Et.two {W:aH} {P R:Prop} {m:List En} {r:Br×Bool} {e:Ending} {w':aH} (h:Et W P R m r e w'):uR W P R r e w':=by
 obtain⟨⟨a1,a2,a3,a4,a5,h1,h2,h3,h4,_⟩,h5⟩:=h;exact⟨⟨a1,a2,a3,a4,a5,h1,h2,h3,h4⟩,h5⟩
theorem Po (b:Br) (e:En) (nv av sv ev ov:Sl) (x:iF) (w:aH) (h:iA w b nv av sv ev ov) (he:je w x e) (hf:Py b) (hp:xC b) (hr:kg b.ent) (hok:∀ e∈b.ent,dQ e.p) (hoe:dQ e.p) :
  aX aA 22 #[nT b.me nv av sv ev ov,qZ x] w (Et w (kK w nv b.near) (Yl w b nv av sv ev ov) b.ent (gP b e)):=by
 obtain⟨no,nn,nc⟩:=nv;obtain⟨ao,an,ac⟩:=av;obtain⟨so,sn,sc⟩:=sv;obtain⟨eo,en,ec⟩:=ev;obtain⟨oo,dL,oc⟩:=ov;obtain⟨y1,y2,y3,y4,⟨yo,yn,yc⟩,y6,y7⟩:=x;obtain⟨h0,h1,h2,h3⟩:=gM w #[K L b.me,J no nn nc,J ao an ac,J so sn sc,J eo en ec,J oo dL oc] #[K L y1,K L y2,K L y3,K L y4,J yo yn yc,K L y6,aj y7] #[K L 0,J ah 0 0,J ah 0 0,J ah 0 0,J ah 0 0,J ah 0 0] 33 68 33;have BB:=D h0;have X1:=D h1;have X2:=D h2;have X3:=D h3;have HH:=D h;have EE:=D he;have HF:=D hf;have HP:=D hp;have HR:=D hr;have OK:=D hok;have OE:=D hoe;obtain⟨la,ha1,ha2⟩:=h.dM;have SW:=D (y9 b.me (J no nn nc) (J so sn sc) (J eo en ec) (J oo dL oc) (ao,an,ac) la b.dM (y1,y2) _ (ha1.on BB.out) (ha2.mono fun _ _ q=>q.on BB.out) hp.dM);have ET:=D (show e.tree=(y1,y2) from he.1.symm);have ES:=D (show e.sub=(y3,y4) from he.2.1.symm);have EF:=D (show e.from_=y6 from he.2.2.1.symm);obtain⟨x0,x1,x2,x3,x4,x5⟩:=X1.out.eZ;obtain⟨d0,d1,d2,d3,d4,d5,d6⟩:=X2.out.oq;clear h0 h1 h2 h3 h he hf hp hr hok hoe ha1 ha2 la;go_enter Tryz.func22,Tryz.ntmps22;go_wp2_with fail;generalize ((w.alloc (au #[K L b.me,J no nn nc,J ao an ac,J so sn sc,J eo en ec,J oo dL oc] 33)).alloc (au #[K L y1,K L y2,K L y3,K L y4,J yo yn yc,K L y6,aj y7] 68)).alloc (au #[K L 0,J ah 0 0,J ah 0 0,J ah 0 0,J ah 0 0,J ah 0 0] 33)=W at *;refine SW.out.mono ?_;rintro e1 w1 ⟨hq,hb⟩;have B1:=D (BB.out.trans (hb.mono BB.out.size));have Z1:=D (X1.out.on hb);have Z2:=D (X2.out.on hb);have Z3:=D (X3.out.on hb);clear hb SW X1 X2 X3;clear x0 x1 x2 x3 x4 x5;clear d0 d1 d2 d3 d4 d5 d6;obtain⟨⟨r1,r2,⟨ro,rn,rc⟩,r4⟩,kn,rfl,hin⟩:∃ (r:jC) (kn:Bool),e1=aM (.tuple #[lU r,aj kn])/\((kn=ak/\fP b.dM (y1,y2)=ah)\/(kn=aR/\∃ a,fP b.dM (y1,y2)=ay a/\r.2.2.2=a.par)):=by
  cases hfa:fP b.dM (y1,y2) with
  | none =>
   rw [hfa] at hq;exact⟨_,ak,hq,Or.inl ⟨rfl,rfl⟩⟩
  | some a =>
   rw [hfa] at hq;obtain⟨r,h1,h2⟩:=hq;exact⟨r,aR,h1,Or.inr ⟨rfl,a,rfl,h2.2.1⟩⟩
 have HI:=D hin;have nb:=fO w1 (au #[K L r1,K L r2,J ro rn rc,K L r4] 53);have AB:=D (dK w1 #[K L r1,K L r2,J ro rn rc,K L r4] 53);have B2:=D (B1.out.trans (nb.mono B1.out.size));have Y1:=D (Z1.out.on nb);have Y2:=D (Z2.out.on nb);have Y3:=D (Z3.out.on nb);obtain⟨les,hs1,hs2⟩:=HH.out.ent;have PL:=D (OZ (eo,en,ec) les b.ent (y1,y2) (y3,y4) _ (hs1.on B2.out) (hs2.mono fun _ _ q=>q.on B2.out) HR.out (by rw [hs2.len]; have:=HF.out.ent; omega));have afN:=D hs1;have adE:=D hs2;obtain⟨k,hk⟩:∃ k,eH (b.ent.map fu) ((y1,y2),(y3,y4))=k:=⟨_,rfl⟩;obtain⟨th,hth⟩:∃ k,qU b.ent (y1,y2) (y3,y4)=k:=⟨_,rfl⟩;rw [hk,hth] at PL;have HK:=D hk;have TH:=D hth;have KL:=D (show k<=b.ent.length by rw [<- hk]; simpa using kY (b.ent.map fu) ((y1,y2),(y3,y4)));have x4:=Y1.out.cell 4;simp only [U,O,Q] at x4;have d1:=Y2.out.cell 1;have d0:=Y2.out.cell 0;have d2:=Y2.out.cell 2;have d3:=Y2.out.cell 3;simp only [U,O,Q] at d0 d1 d2 d3;clear hin hq nb hs1 hs2 hk hth Z1 Z2 Z3;go_wp2_with fail;generalize hw2:w1.alloc (au #[K L r1,K L r2,J ro rn rc,K L r4] 53)=w2 at *;refine PL.out.mono ?_;rintro e2 w3 ⟨rfl,hb⟩;have BW:=D (B2.out.trans (hb.mono B2.out.size));have T1:=D (Y1.out.on hb);have T2:=D (Y2.out.on hb);have T3:=D (Y3.out.on hb);have TA:=AB.out.on hb;clear x4;clear d0 d1 d2 d3;have a3:=TA.cell 3;have d5:=T2.out.cell 5;simp only [U,O,Q] at a3 d5;obtain⟨fq,hfq⟩:∃ q,(y6 == r4)=q:=⟨_,rfl⟩;obtain⟨rt,hrt⟩:∃ q,(r4 == -1)=q:=⟨_,rfl⟩;have FQ:=D hfq;have RT:=D hrt;clear hb PL TA Y1 Y2 Y3 AB hw2;cases kn
 ·have LQ:=D (show gP b e=(b,ak) from by
   rw [<- vE HR.out];unfold J4;have h0:fP b.dM e.tree=ah:=by
    rw [ET.out];rcases HI.out with⟨_,h⟩|⟨h,_⟩
    ·exact h
    ·cases h
   rw [h0])
  have Q1:=T1.out;have Q3:=T3.out;obtain⟨x0,x1,x2,x3,x4,x5⟩:=Q1.eZ;obtain⟨z0,z1,z2,z3,z4,z5⟩:=Q3.eZ;obtain⟨zf0,zf1,zf2,zf3,zf4,zf5⟩:=Q3.ku;have zlt:=Q3.lt;have FB:=D (dJ Q3 (K L b.me) (J no nn nc) (J ao an ac) (J so sn sc) (J eo en ec) (J oo dL oc));have FL:=D (dB (b:=w.heap.size+1+1) BW.out (by omega) (K L b.me) (J no nn nc) (J ao an ac) (J so sn sc) (J eo en ec) (J oo dL oc));clear Q1 Q3;go_wp2_with fail;clear z0 z1 z2 z3 z4 z5;obtain⟨v0,v1,v2,v3,v4,v5⟩:=FB.out.eZ;refine aN (v:=.tuple #[bn #[K L b.me,J no nn nc,J ao an ac,J so sn sc,J eo en ec,J oo dL oc],aj ak]) (by simp [results,aK,go_sem,v0,v1,v2,v3,v4,v5]) rfl ?_;rw [LQ.out];exact⟨⟨(no,nn,nc),(ao,an,ac),(so,sn,sc),(eo,en,ec),(oo,dL,oc),rfl,HH.out.on FL.out,fun h=>h.on FL.out,fun h=>(h.resolve_right (by simp)).on FL.out,Or.inl rfl⟩,FL.out⟩
 ·cases th
  ·cases rt
   ·cases fq
    ·have x1:=T2.out.cell 1;have x0:=T2.out.cell 0;have x2:=T2.out.cell 2;have x3:=T2.out.cell 3;have x4:=T2.out.cell 4;have x6:=T2.out.cell 6;simp only [U,O,Q] at x0 x1 x2 x3 x4 x6;have PE:=D (show fK w3 (J yo yn yc) e.p from (EE.out.2.2.2.2).on BW.out);have S3X:=D (show w.heap.size<=w3.heap.size from BW.out.size);have CP:=D (D7 (y1,y2,y3,y4,(yo,yn,yc),y6,y7) e.p w3 PE.out (mD OE.out));go_wp2_with fail;refine CP.out.mono ?_;rintro e4 w3b ⟨⟨⟨u1,u2,u3⟩,rfl,ho⟩,hb⟩;clear x0 x1 x2 x3 x4 x6;clear a3 d5;have V2:=T2.out.on hb;obtain⟨x0,x1,x2,x3,x4,x5,x6⟩:=V2.oq;obtain⟨xf0,xf1,VZ,V7,NJ,Wd,xf6⟩:=V2.fs7;have xlt:=V2.lt;have bs:=Gm w3b (w.heap.size+1) (K L y1) (K L y2) (K L y3) (K L y4) (J u1 u2 u3) (K L y6) (aj y7);have E2:=D (za V2 (K L y1) (K L y2) (K L y3) (K L y4) (J u1 u2 u3) (K L y6) (aj y7));have E1:=D (bs.box (T1.out.on hb) (by omega));have E3:=D (bs.box (T3.out.on hb) (by omega));have EO:=D (bs.own ho V2 (by decide));have EL:=D (uj (b:=w.heap.size+1) (BW.out.trans (hb.mono BW.out.size)) (by omega) (K L y1) (K L y2) (K L y3) (K L y4) (J u1 u2 u3) (K L y6) (aj y7));have Xh:=D (show w3.heap.size<=(Gl w3b (w.heap.size+1) (K L y1) (K L y2) (K L y3) (K L y4) (J u1 u2 u3) (K L y6) (aj y7)).heap.size by have:=hb.size; simp; omega);have L4:=D (show w.heap.size+1+1<w3.heap.size from T3.out.lt);clear V2 ho hb CP T1 T2 T3 BW bs;go_upto_region 7 with fail;clear x0 x1 x2 x3 x4 x5 x6 xf0 xf1 VZ V7 NJ Wd xf6 xlt;unfold Gl at E2 E1 E3 EO EL Xh;generalize (((((((w3b).setCell ⟨w.heap.size+1,0,ah⟩ (K L y1)).setCell ⟨w.heap.size+1,1,ah⟩ (K L y2)).setCell ⟨w.heap.size+1,2,ah⟩ (K L y3)).setCell ⟨w.heap.size+1,3,ah⟩ (K L y4)).setCell ⟨w.heap.size+1,4,ah⟩ (J u1 u2 u3)).setCell ⟨w.heap.size+1,5,ah⟩ (K L y6)).setCell ⟨w.heap.size+1,6,ah⟩ (aj y7)=w4b at *;have x1:=E2.out.cell 1;have x0:=E2.out.cell 0;have x4:=E2.out.cell 4;simp only [U,O,Q] at x0 x1 x4;obtain⟨z0,z1,z2,z3,z4,z5⟩:=E1.out.eZ;have CV:=D (Ug b.me (J no nn nc) (J ao an ac) (J so sn sc) (J oo dL oc) (eo,en,ec) les b.ent (y1,y2) (J u1 u2 u3) e.p w4b (afN.out.on EL.out) (adE.out.mono fun _ _ q=>q.on EL.out) HR.out (by rw [adE.out.len]; have:=HF.out.ent; omega) (Row.dw EO.out) OK.out OE.out);obtain⟨cv,hcv⟩:∃ c,eU b.ent (y1,y2) e.p=c:=⟨_,rfl⟩;rw [hcv] at CV;have CVQ:=D hcv;clear hcv;go_wp2_with fail;refine CV.out.mono ?_;rintro e5 w4c ⟨rfl,hb⟩;clear x0 x1 x4;clear z0 z1 z2 z3 z4 z5
     replace E2:=D (E2.out.on hb)
     replace E1:=D (E1.out.on hb)
     replace E3:=D (E3.out.on hb)
     replace EO:=D (Bk.dx EO.out hb)
     replace Xh:=D (aC Xh.out hb.size)
     replace EL:=D (EL.out.trans (hb.mono EL.out.size))
     clear CV hb;have x6:=E2.out.cell 6;have xf6:=E2.out.fr 6;have xlt:=E2.out.lt;simp only [U,O,Q] at x6;have bs:=dR w4c (w.heap.size+1) 6 (aj (!cv));have T2:=D (show dI (w4c.setCell ⟨w.heap.size+1,6,ah⟩ (aj (!cv))) (w.heap.size+1) #[K L y1,K L y2,K L y3,K L y4,J u1 u2 u3,K L y6,aj (!cv)] 68 by simpa using dO (k:=6) E2.out (aj (!cv)));have T1:=D (bs.box E1.out (by omega));have T3:=D (bs.box E3.out (by omega));have OC:=D (bs.own EO.out E2.out (by decide));have BW:=D (EL.out.setCell (p:=⟨w.heap.size+1,6,ah⟩) (by simp) (aj (!cv)));have S45:=D (show w3.heap.size<=(w4c.setCell ⟨w.heap.size+1,6,ah⟩ (aj (!cv))).heap.size by have:=Xh.out; simp; omega);clear bs E1 E2 E3 EO EL Xh;go_upto_region 8 with fail;clear x6 xf6 xlt;generalize w4c.setCell ⟨w.heap.size+1,6,ah⟩ (aj (!cv))=w5 at *;have LQ:=D (show gP b e=({ b with ent:=fM b.ent k { e with up:=(!cv) } },(!cv)) from by
      rw [<- vE HR.out];unfold J4;obtain⟨a,h0,h1⟩:∃ a,fP b.dM e.tree=ay a/\r4=a.par:=by
       rw [ET.out];rcases HI.out with⟨h,_⟩|⟨_,h⟩
       ·cases h
       ·exact h
      rw [h0];simp only;rw [if_neg (by rw [ET.out,ES.out,TH.out]; simp),if_neg ?_,show eH (b.ent.map fu) (e.tree,e.sub)=k by rw [ET.out,ES.out]; exact HK.out,<- h1,RT.out]
      ·rw [ET.out,CVQ.out]
       rfl
      ·rintro⟨g,_⟩;rw [EF.out,<- h1] at g;have:=FQ.out;simp at this;exact this g)
     have Q1:=T1.out;obtain⟨x0,x1,x2,x3,x4,x5⟩:=Q1.eZ;clear Q1;go_wp2_with fail;refine (wH b (no,nn,nc) (ao,an,ac) (so,sn,sc) (eo,en,ec) (oo,dL,oc) w w5 BW.out HH.out HF.out HP.out).mono ?_;rintro e6 w6 ⟨⟨⟨p1,q1,s1⟩,⟨p2,q2,s2⟩,⟨p3,q3,s3⟩,⟨p4,q4,s4⟩,⟨p5,q5,s5⟩,rfl,cp⟩,hb6⟩;clear x0 x1 x2 x3 x4 x5;have V1:=T1.out.on hb6;have V2:=D (T2.out.on hb6);have V3:=D (T3.out.on hb6);obtain⟨x0,x1,x2,x3,x4,x5⟩:=V1.eZ;obtain⟨xf0,xf1,VZ,V7,NJ,Wd⟩:=V1.ku;have xlt:=V1.lt;have bs:=gq w6 w.heap.size (K L b.me) (J p1 q1 s1) (J p2 q2 s2) (J p3 q3 s3) (J p4 q4 s4) (J p5 q5 s5);have FB:=D (dJ V1 (K L b.me) (J p1 q1 s1) (J p2 q2 s2) (J p3 q3 s3) (J p4 q4 s4) (J p5 q5 s5));have FC:=D (Sb.Cp.less (cp.but bs V1) (show w3.heap.size<=w5.heap.size from S45.out));have FO:=D (bs.own (Bk.dx OC.out hb6) V1 (by decide));have FL:=D (dB (b:=w.heap.size) (BW.out.trans (hb6.mono BW.out.size)) (aQ _) (K L b.me) (J p1 q1 s1) (J p2 q2 s2) (J p3 q3 s3) (J p4 q4 s4) (J p5 q5 s5));have F2:=D (bs.box V2.out (by omega));have F3:=D (bs.box V3.out (by omega));have SZ:=D (show w3.heap.size<=(gN w6 w.heap.size (K L b.me) (J p1 q1 s1) (J p2 q2 s2) (J p3 q3 s3) (J p4 q4 s4) (J p5 q5 s5)).heap.size by have:=hb6.size; have:=S45.out; simp; omega);clear V1 V2 V3 cp hb6 bs T1 T2 T3 OC BW;go_upto_region 9 with fail;clear x0 x1 x2 x3 x4 x5 xf0 xf1 VZ V7 NJ Wd xlt;unfold gN at FB FC FL F2 F3 SZ FO;generalize ((((((w6).setCell ⟨w.heap.size,0,ah⟩ (K L b.me)).setCell ⟨w.heap.size,1,ah⟩ (J p1 q1 s1)).setCell ⟨w.heap.size,2,ah⟩ (J p2 q2 s2)).setCell ⟨w.heap.size,3,ah⟩ (J p3 q3 s3)).setCell ⟨w.heap.size,4,ah⟩ (J p4 q4 s4)).setCell ⟨w.heap.size,5,ah⟩ (J p5 q5 s5)=w7 at *;obtain⟨le,hle1,hle2⟩:=FC.out.ent;have vG:=D hle1;have HL2:=D hle2;clear hle1 hle2;have nb:=fO w7 (au #[K L y1,K L y2,K L y3,K L y4,J u1 u2 u3,K L y6,aj (!cv)] 68);have bx:=dK w7 #[K L y1,K L y2,K L y3,K L y4,J u1 u2 u3,K L y6,aj (!cv)] 68;have IN:=D (wX w3.heap.size (J p4 q4 s4) le k (y1,y2,y3,y4,(u1,u2,u3),y6,(!cv)) w7.heap.size _ (Bk.dx vG.out nb) bx (fun e=>by
      obtain⟨d,hd⟩:=kJ vG.out _ e;have:=hd.lt;omega) (by rw [HL2.out.len]; exact KL.out) (by rw [HL2.out.len]; exact HF.out.ent) (aC SZ.out nb.size))
     have FB2:=D (FB.out.on nb);have F22:=D (F2.out.on nb);have F32:=D (F3.out.on nb);have FO2:=D (Bk.dx FO.out nb);have FC2:=D (FC.out.grow nb);have FL2:=D (FL.out.trans (nb.mono FL.out.size));have HA2:=D (HL2.out.mono fun _ _ q=>q.grow nb);have Em:=D (kJ (Bk.dx vG.out nb));have x4:=FB.out.cell 4;simp only [U,O,Q] at x4;obtain⟨d0,d1,d2,d3,d4,d5,d6⟩:=F2.out.oq;clear nb bx;go_wp2_with fail;refine IN.out.mono ?_;rintro e8 w8 ⟨v8,rfl,hown,hbel,hoth⟩;clear x4;clear d0 d1 d2 d3 d4 d5 d6;generalize w7.alloc (au #[K L y1,K L y2,K L y3,K L y4,J u1 u2 u3,K L y6,aj (!cv)] 68)=w7a at *;obtain⟨t1,t2,hv8⟩:=(Row.dw hown).len;subst hv8;generalize (le.take k++(y1,y2,y3,y4,(u1,u2,u3),y6,(!cv))::le.drop k).length=tn at *;have hoff:Off (J p4 q4 s4).ownBlock w7a w8:=⟨hoth,hbel.size⟩;have CP:=D (FC2.out.acZ (ev':=(t1,tn,t2)) (el:=fM b.ent k { e with up:=(!cv) }) hoff ⟨fM le k (y1,y2,y3,y4,(u1,u2,u3),y6,(!cv)),by unfold fM; rw [aV]; exact hown,zk (HA2.out.mono fun _ _ q=>q.off hoff Em.out (by decide)) k ⟨EE.out.1,EE.out.2.1,EE.out.2.2.1,rfl,Or.inr (hoff.own FO2.out Em.out (by decide))⟩⟩);have G1:=hoff.box FB2.out Em.out (by decide);have G3:=hoff.box F32.out Em.out (by decide);have G2:=D (show dI w8 (w.heap.size+1) #[K L y1,K L y2,K L y3,K L y4,J u1 u2 u3,K L y6,aj (!cv)] 68 from (hoth _ F22.out.lt (fun e=>by
      have:=Mj vG.out _ e.symm;have:=L4.out;omega)).trans F22.out)
     have NC:=D (show dI (w8.setCell ⟨w.heap.size,4,ah⟩ (J t1 tn t2)) w.heap.size #[K L b.me,J p1 q1 s1,J p2 q2 s2,J p3 q3 s3,J t1 tn t2,J p5 q5 s5] 33 by simpa using dO (k:=4) G1 (J t1 tn t2));have MC:=D (CP.out.but (dR w8 w.heap.size 4 (J t1 tn t2)) G1);have M3:=D ((dR w8 w.heap.size 4 (J t1 tn t2)).box G3 (by omega));have M2:=D ((dR w8 w.heap.size 4 (J t1 tn t2)).box G2.out (by omega));have ML:=D (show Below w.heap.size w (w8.setCell ⟨w.heap.size,4,ah⟩ (J t1 tn t2)) from (FL2.out.trans (hbel.mono (by have:=L4.out; omega))).setCell (p:=⟨w.heap.size,4,ah⟩) (aQ _) _);have x4:=G1.cell 4;have NJ:=G1.fr 4;have xlt:=G1.lt;simp only [U,O,Q] at x4;clear hown hbel hoth hoff G1 G2 G3 CP FB FB2 FC FC2 FO FO2 F2 F22 F3 F32 FL FL2 vG HL2 HA2 Em IN SZ;go_upto_region 10 with fail;clear x4 NJ xlt;generalize w8.setCell ⟨w.heap.size,4,ah⟩ (J t1 tn t2)=w9 at *;have Q1:=NC.out;have Q2:=M2.out;have Q3:=M3.out;obtain⟨x0,x1,x2,x3,x4,x5⟩:=Q1.eZ;have d6:=Q2.cell 6;simp only [U,O,Q] at d6;obtain⟨z0,z1,z2,z3,z4,z5⟩:=Q3.eZ;obtain⟨zf0,zf1,zf2,zf3,zf4,zf5⟩:=Q3.ku;have zlt:=Q3.lt;have FB:=D ((dJ Q3 (K L b.me) (J p1 q1 s1) (J p2 q2 s2) (J p3 q3 s3) (J t1 tn t2) (J p5 q5 s5)).on (aP _ _).drew);have FC:=D ((MC.out.but (gq w9 (w.heap.size+1+1) (K L b.me) (J p1 q1 s1) (J p2 q2 s2) (J p3 q3 s3) (J t1 tn t2) (J p5 q5 s5)) Q3).grow (aP _ _).drew);have FL:=D (dB (b:=w.heap.size+1+1) ML.out (by omega) (K L b.me) (J p1 q1 s1) (J p2 q2 s2) (J p3 q3 s3) (J t1 tn t2) (J p5 q5 s5)).drew;clear Q1 Q2 Q3 NC MC M2 M3 ML;go_wp2
     go_region
     all_goals simp only [Exit.then]
     all_goals apply_assumption
     all_goals
      clear x0 x1 x2 x3 x4 x5;clear z0 z1 z2 z3 z4 z5 zf0 zf1 zf2 zf3 zf4 zf5 zlt;clear d6;unfold gN at FB FC FL;generalize (((((((w9).setCell ⟨w.heap.size+1+1,0,ah⟩ (K L b.me)).setCell ⟨w.heap.size+1+1,1,ah⟩ (J p1 q1 s1)).setCell ⟨w.heap.size+1+1,2,ah⟩ (J p2 q2 s2)).setCell ⟨w.heap.size+1+1,3,ah⟩ (J p3 q3 s3)).setCell ⟨w.heap.size+1+1,4,ah⟩ (J t1 tn t2)).setCell ⟨w.heap.size+1+1,5,ah⟩ (J p5 q5 s5)).drew=wz at *;obtain⟨v0,v1,v2,v3,v4,v5⟩:=FB.out.eZ;go_wp2;refine aN (v:=.tuple #[bn #[K L b.me,J p1 q1 s1,J p2 q2 s2,J p3 q3 s3,J t1 tn t2,J p5 q5 s5],aj (!cv)]) (by simp [results,aK,go_sem,v0,v1,v2,v3,v4,v5]) rfl ?_;rw [LQ.out];exact⟨⟨(p1,q1,s1),(p2,q2,s2),(p3,q3,s3),(t1,tn,t2),(p5,q5,s5),rfl,FC.out.vbr,fun _=>⟨_,FC.out.near⟩,fun _=>⟨_,_,FC.out⟩,Or.inr ⟨_,_,S3X.out,FC.out⟩⟩,FL.out⟩
    ·have LQ:=D (show gP b e=(b,ak) from by
      rw [<- vE HR.out];unfold J4;obtain⟨a,h0,h1⟩:∃ a,fP b.dM e.tree=ay a/\r4=a.par:=by
       rw [ET.out];rcases HI.out with⟨h,_⟩|⟨_,h⟩
       ·cases h
       ·exact h
      rw [h0];simp only;rw [if_neg (by rw [ET.out,ES.out,TH.out]; simp),if_pos ?_];refine⟨?_,?_⟩
      ·rw [EF.out,<- h1];have:=FQ.out;simpa using this
      ·rw [<- h1];have:=RT.out;simpa using this)
     have Q1:=T1.out;have Q3:=T3.out;obtain⟨x0,x1,x2,x3,x4,x5⟩:=Q1.eZ;obtain⟨z0,z1,z2,z3,z4,z5⟩:=Q3.eZ;obtain⟨zf0,zf1,zf2,zf3,zf4,zf5⟩:=Q3.ku;have zlt:=Q3.lt;have FB:=D (dJ Q3 (K L b.me) (J no nn nc) (J ao an ac) (J so sn sc) (J eo en ec) (J oo dL oc));have FL:=D (dB (b:=w.heap.size+1+1) BW.out (by omega) (K L b.me) (J no nn nc) (J ao an ac) (J so sn sc) (J eo en ec) (J oo dL oc));clear Q1 Q3;go_wp2_with fail;clear z0 z1 z2 z3 z4 z5;obtain⟨v0,v1,v2,v3,v4,v5⟩:=FB.out.eZ;refine aN (v:=.tuple #[bn #[K L b.me,J no nn nc,J ao an ac,J so sn sc,J eo en ec,J oo dL oc],aj ak]) (by simp [results,aK,go_sem,v0,v1,v2,v3,v4,v5]) rfl ?_;rw [LQ.out];exact⟨⟨(no,nn,nc),(ao,an,ac),(so,sn,sc),(eo,en,ec),(oo,dL,oc),rfl,HH.out.on FL.out,fun h=>h.on FL.out,fun h=>(h.resolve_right (by simp)).on FL.out,Or.inl rfl⟩,FL.out⟩
   ·cases fq
    all_goals
     have x1:=T2.out.cell 1;have x0:=T2.out.cell 0;have x2:=T2.out.cell 2;have x3:=T2.out.cell 3;have x4:=T2.out.cell 4;have x6:=T2.out.cell 6;simp only [U,O,Q] at x0 x1 x2 x3 x4 x6;have PE:=D (show fK w3 (J yo yn yc) e.p from (EE.out.2.2.2.2).on BW.out);have S3X:=D (show w.heap.size<=w3.heap.size from BW.out.size);have CP:=D (D7 (y1,y2,y3,y4,(yo,yn,yc),y6,y7) e.p w3 PE.out (mD OE.out));go_wp2_with fail;refine CP.out.mono ?_;rintro e4 w3b ⟨⟨⟨u1,u2,u3⟩,rfl,ho⟩,hb⟩;clear x0 x1 x2 x3 x4 x6;clear a3 d5;have V2:=T2.out.on hb;obtain⟨x0,x1,x2,x3,x4,x5,x6⟩:=V2.oq;obtain⟨xf0,xf1,VZ,V7,NJ,Wd,xf6⟩:=V2.fs7;have xlt:=V2.lt;have bs:=Gm w3b (w.heap.size+1) (K L y1) (K L y2) (K L y3) (K L y4) (J u1 u2 u3) (K L y6) (aj y7);have E2:=D (za V2 (K L y1) (K L y2) (K L y3) (K L y4) (J u1 u2 u3) (K L y6) (aj y7));have E1:=D (bs.box (T1.out.on hb) (by omega));have E3:=D (bs.box (T3.out.on hb) (by omega));have EO:=D (bs.own ho V2 (by decide));have EL:=D (uj (b:=w.heap.size+1) (BW.out.trans (hb.mono BW.out.size)) (by omega) (K L y1) (K L y2) (K L y3) (K L y4) (J u1 u2 u3) (K L y6) (aj y7));have Xh:=D (show w3.heap.size<=(Gl w3b (w.heap.size+1) (K L y1) (K L y2) (K L y3) (K L y4) (J u1 u2 u3) (K L y6) (aj y7)).heap.size by have:=hb.size; simp; omega);have L4:=D (show w.heap.size+1+1<w3.heap.size from T3.out.lt);clear V2 ho hb CP T1 T2 T3 BW bs;go_upto_region 7 with fail;clear x0 x1 x2 x3 x4 x5 x6 xf0 xf1 VZ V7 NJ Wd xf6 xlt;unfold Gl at E2 E1 E3 EO EL Xh;generalize (((((((w3b).setCell ⟨w.heap.size+1,0,ah⟩ (K L y1)).setCell ⟨w.heap.size+1,1,ah⟩ (K L y2)).setCell ⟨w.heap.size+1,2,ah⟩ (K L y3)).setCell ⟨w.heap.size+1,3,ah⟩ (K L y4)).setCell ⟨w.heap.size+1,4,ah⟩ (J u1 u2 u3)).setCell ⟨w.heap.size+1,5,ah⟩ (K L y6)).setCell ⟨w.heap.size+1,6,ah⟩ (aj y7)=w4b at *;have x6:=E2.out.cell 6;have xf6:=E2.out.fr 6;have xlt:=E2.out.lt;simp only [U,O,Q] at x6;have bs:=dR w4b (w.heap.size+1) 6 (aj ak);have T2:=D (show dI (w4b.setCell ⟨w.heap.size+1,6,ah⟩ (aj ak)) (w.heap.size+1) #[K L y1,K L y2,K L y3,K L y4,J u1 u2 u3,K L y6,aj ak] 68 by simpa using dO (k:=6) E2.out (aj ak));have T1:=D (bs.box E1.out (by omega));have T3:=D (bs.box E3.out (by omega));have OC:=D (bs.own EO.out E2.out (by decide));have BW:=D (EL.out.setCell (p:=⟨w.heap.size+1,6,ah⟩) (by simp) (aj ak));have S45:=D (show w3.heap.size<=(w4b.setCell ⟨w.heap.size+1,6,ah⟩ (aj ak)).heap.size by have:=Xh.out; simp; omega);clear bs E1 E2 E3 EO EL Xh;go_upto_region 8 with fail;clear x6 xf6 xlt;generalize w4b.setCell ⟨w.heap.size+1,6,ah⟩ (aj ak)=w5 at *;have LQ:=D (show gP b e=({ b with ent:=fM b.ent k { e with up:=ak } },ak) from by
      rw [<- vE HR.out];unfold J4;obtain⟨a,h0,h1⟩:∃ a,fP b.dM e.tree=ay a/\r4=a.par:=by
       rw [ET.out];rcases HI.out with⟨h,_⟩|⟨_,h⟩
       ·cases h
       ·exact h
      rw [h0];simp only;rw [if_neg (by rw [ET.out,ES.out,TH.out]; simp),if_neg ?_,show eH (b.ent.map fu) (e.tree,e.sub)=k by rw [ET.out,ES.out]; exact HK.out,<- h1,RT.out]
      ·rfl
      ·rintro⟨_,g⟩;rw [<- h1] at g;have:=RT.out;simp at this;exact g this)
     have Q1:=T1.out;obtain⟨x0,x1,x2,x3,x4,x5⟩:=Q1.eZ;clear Q1;go_wp2_with fail;refine (wH b (no,nn,nc) (ao,an,ac) (so,sn,sc) (eo,en,ec) (oo,dL,oc) w w5 BW.out HH.out HF.out HP.out).mono ?_;rintro e6 w6 ⟨⟨⟨p1,q1,s1⟩,⟨p2,q2,s2⟩,⟨p3,q3,s3⟩,⟨p4,q4,s4⟩,⟨p5,q5,s5⟩,rfl,cp⟩,hb6⟩;clear x0 x1 x2 x3 x4 x5;have V1:=T1.out.on hb6;have V2:=D (T2.out.on hb6);have V3:=D (T3.out.on hb6);obtain⟨x0,x1,x2,x3,x4,x5⟩:=V1.eZ;obtain⟨xf0,xf1,VZ,V7,NJ,Wd⟩:=V1.ku;have xlt:=V1.lt;have bs:=gq w6 w.heap.size (K L b.me) (J p1 q1 s1) (J p2 q2 s2) (J p3 q3 s3) (J p4 q4 s4) (J p5 q5 s5);have FB:=D (dJ V1 (K L b.me) (J p1 q1 s1) (J p2 q2 s2) (J p3 q3 s3) (J p4 q4 s4) (J p5 q5 s5));have FC:=D (Sb.Cp.less (cp.but bs V1) (show w3.heap.size<=w5.heap.size from S45.out));have FO:=D (bs.own (Bk.dx OC.out hb6) V1 (by decide));have FL:=D (dB (b:=w.heap.size) (BW.out.trans (hb6.mono BW.out.size)) (aQ _) (K L b.me) (J p1 q1 s1) (J p2 q2 s2) (J p3 q3 s3) (J p4 q4 s4) (J p5 q5 s5));have F2:=D (bs.box V2.out (by omega));have F3:=D (bs.box V3.out (by omega));have SZ:=D (show w3.heap.size<=(gN w6 w.heap.size (K L b.me) (J p1 q1 s1) (J p2 q2 s2) (J p3 q3 s3) (J p4 q4 s4) (J p5 q5 s5)).heap.size by have:=hb6.size; have:=S45.out; simp; omega);clear V1 V2 V3 cp hb6 bs T1 T2 T3 OC BW;go_upto_region 9 with fail;clear x0 x1 x2 x3 x4 x5 xf0 xf1 VZ V7 NJ Wd xlt;unfold gN at FB FC FL F2 F3 SZ FO;generalize ((((((w6).setCell ⟨w.heap.size,0,ah⟩ (K L b.me)).setCell ⟨w.heap.size,1,ah⟩ (J p1 q1 s1)).setCell ⟨w.heap.size,2,ah⟩ (J p2 q2 s2)).setCell ⟨w.heap.size,3,ah⟩ (J p3 q3 s3)).setCell ⟨w.heap.size,4,ah⟩ (J p4 q4 s4)).setCell ⟨w.heap.size,5,ah⟩ (J p5 q5 s5)=w7 at *;obtain⟨le,hle1,hle2⟩:=FC.out.ent;have vG:=D hle1;have HL2:=D hle2;clear hle1 hle2;have nb:=fO w7 (au #[K L y1,K L y2,K L y3,K L y4,J u1 u2 u3,K L y6,aj ak] 68);have bx:=dK w7 #[K L y1,K L y2,K L y3,K L y4,J u1 u2 u3,K L y6,aj ak] 68;have IN:=D (wX w3.heap.size (J p4 q4 s4) le k (y1,y2,y3,y4,(u1,u2,u3),y6,ak) w7.heap.size _ (Bk.dx vG.out nb) bx (fun e=>by
      obtain⟨d,hd⟩:=kJ vG.out _ e;have:=hd.lt;omega) (by rw [HL2.out.len]; exact KL.out) (by rw [HL2.out.len]; exact HF.out.ent) (aC SZ.out nb.size))
     have FB2:=D (FB.out.on nb);have F22:=D (F2.out.on nb);have F32:=D (F3.out.on nb);have FO2:=D (Bk.dx FO.out nb);have FC2:=D (FC.out.grow nb);have FL2:=D (FL.out.trans (nb.mono FL.out.size));have HA2:=D (HL2.out.mono fun _ _ q=>q.grow nb);have Em:=D (kJ (Bk.dx vG.out nb));have x4:=FB.out.cell 4;simp only [U,O,Q] at x4;obtain⟨d0,d1,d2,d3,d4,d5,d6⟩:=F2.out.oq;clear nb bx;go_wp2_with fail;refine IN.out.mono ?_;rintro e8 w8 ⟨v8,rfl,hown,hbel,hoth⟩;clear x4;clear d0 d1 d2 d3 d4 d5 d6;generalize w7.alloc (au #[K L y1,K L y2,K L y3,K L y4,J u1 u2 u3,K L y6,aj ak] 68)=w7a at *;obtain⟨t1,t2,hv8⟩:=(Row.dw hown).len;subst hv8;generalize (le.take k++(y1,y2,y3,y4,(u1,u2,u3),y6,ak)::le.drop k).length=tn at *;have hoff:Off (J p4 q4 s4).ownBlock w7a w8:=⟨hoth,hbel.size⟩;have CP:=D (FC2.out.acZ (ev':=(t1,tn,t2)) (el:=fM b.ent k { e with up:=ak }) hoff ⟨fM le k (y1,y2,y3,y4,(u1,u2,u3),y6,ak),by unfold fM; rw [aV]; exact hown,zk (HA2.out.mono fun _ _ q=>q.off hoff Em.out (by decide)) k ⟨EE.out.1,EE.out.2.1,EE.out.2.2.1,rfl,Or.inr (hoff.own FO2.out Em.out (by decide))⟩⟩);have G1:=hoff.box FB2.out Em.out (by decide);have G3:=hoff.box F32.out Em.out (by decide);have G2:=D (show dI w8 (w.heap.size+1) #[K L y1,K L y2,K L y3,K L y4,J u1 u2 u3,K L y6,aj ak] 68 from (hoth _ F22.out.lt (fun e=>by
      have:=Mj vG.out _ e.symm;have:=L4.out;omega)).trans F22.out)
     have NC:=D (show dI (w8.setCell ⟨w.heap.size,4,ah⟩ (J t1 tn t2)) w.heap.size #[K L b.me,J p1 q1 s1,J p2 q2 s2,J p3 q3 s3,J t1 tn t2,J p5 q5 s5] 33 by simpa using dO (k:=4) G1 (J t1 tn t2));have MC:=D (CP.out.but (dR w8 w.heap.size 4 (J t1 tn t2)) G1);have M3:=D ((dR w8 w.heap.size 4 (J t1 tn t2)).box G3 (by omega));have M2:=D ((dR w8 w.heap.size 4 (J t1 tn t2)).box G2.out (by omega));have ML:=D (show Below w.heap.size w (w8.setCell ⟨w.heap.size,4,ah⟩ (J t1 tn t2)) from (FL2.out.trans (hbel.mono (by have:=L4.out; omega))).setCell (p:=⟨w.heap.size,4,ah⟩) (aQ _) _);have x4:=G1.cell 4;have NJ:=G1.fr 4;have xlt:=G1.lt;simp only [U,O,Q] at x4;clear hown hbel hoth hoff G1 G2 G3 CP FB FB2 FC FC2 FO FO2 F2 F22 F3 F32 FL FL2 vG HL2 HA2 Em IN SZ;go_upto_region 10 with fail;clear x4 NJ xlt;generalize w8.setCell ⟨w.heap.size,4,ah⟩ (J t1 tn t2)=w9 at *;have Q1:=NC.out;have Q2:=M2.out;have Q3:=M3.out;obtain⟨x0,x1,x2,x3,x4,x5⟩:=Q1.eZ;have d6:=Q2.cell 6;simp only [U,O,Q] at d6;obtain⟨z0,z1,z2,z3,z4,z5⟩:=Q3.eZ;obtain⟨zf0,zf1,zf2,zf3,zf4,zf5⟩:=Q3.ku;have zlt:=Q3.lt;have FB:=D ((dJ Q3 (K L b.me) (J p1 q1 s1) (J p2 q2 s2) (J p3 q3 s3) (J t1 tn t2) (J p5 q5 s5)).on (aP _ _).drew);have FC:=D ((MC.out.but (gq w9 (w.heap.size+1+1) (K L b.me) (J p1 q1 s1) (J p2 q2 s2) (J p3 q3 s3) (J t1 tn t2) (J p5 q5 s5)) Q3).grow (aP _ _).drew);have FL:=D (dB (b:=w.heap.size+1+1) ML.out (by omega) (K L b.me) (J p1 q1 s1) (J p2 q2 s2) (J p3 q3 s3) (J t1 tn t2) (J p5 q5 s5)).drew;clear Q1 Q2 Q3 NC MC M2 M3 ML;go_wp2
     go_region
     all_goals simp only [Exit.then]
     all_goals apply_assumption
     all_goals
      clear x0 x1 x2 x3 x4 x5;clear z0 z1 z2 z3 z4 z5 zf0 zf1 zf2 zf3 zf4 zf5 zlt;clear d6;unfold gN at FB FC FL;generalize (((((((w9).setCell ⟨w.heap.size+1+1,0,ah⟩ (K L b.me)).setCell ⟨w.heap.size+1+1,1,ah⟩ (J p1 q1 s1)).setCell ⟨w.heap.size+1+1,2,ah⟩ (J p2 q2 s2)).setCell ⟨w.heap.size+1+1,3,ah⟩ (J p3 q3 s3)).setCell ⟨w.heap.size+1+1,4,ah⟩ (J t1 tn t2)).setCell ⟨w.heap.size+1+1,5,ah⟩ (J p5 q5 s5)).drew=wz at *;obtain⟨v0,v1,v2,v3,v4,v5⟩:=FB.out.eZ;go_wp2;refine aN (v:=.tuple #[bn #[K L b.me,J p1 q1 s1,J p2 q2 s2,J p3 q3 s3,J t1 tn t2,J p5 q5 s5],aj ak]) (by simp [results,aK,go_sem,v0,v1,v2,v3,v4,v5]) rfl ?_;rw [LQ.out];exact⟨⟨(p1,q1,s1),(p2,q2,s2),(p3,q3,s3),(t1,tn,t2),(p5,q5,s5),rfl,FC.out.vbr,fun _=>⟨_,FC.out.near⟩,fun _=>⟨_,_,FC.out⟩,Or.inr ⟨_,_,S3X.out,FC.out⟩⟩,FL.out⟩
  ·have LQ:=D (show gP b e=(b,ak) from by
    rw [<- vE HR.out];unfold J4;obtain⟨a,h0,h1⟩:∃ a,fP b.dM e.tree=ay a/\r4=a.par:=by
     rw [ET.out];rcases HI.out with⟨h,_⟩|⟨_,h⟩
     ·cases h
     ·exact h
    rw [h0];simp only;rw [if_pos (by rw [ET.out,ES.out,TH.out])])
   have Q1:=T1.out;have Q3:=T3.out;obtain⟨x0,x1,x2,x3,x4,x5⟩:=Q1.eZ;obtain⟨z0,z1,z2,z3,z4,z5⟩:=Q3.eZ;obtain⟨zf0,zf1,zf2,zf3,zf4,zf5⟩:=Q3.ku;have zlt:=Q3.lt;have FB:=D (dJ Q3 (K L b.me) (J no nn nc) (J ao an ac) (J so sn sc) (J eo en ec) (J oo dL oc));have FL:=D (dB (b:=w.heap.size+1+1) BW.out (by omega) (K L b.me) (J no nn nc) (J ao an ac) (J so sn sc) (J eo en ec) (J oo dL oc));clear Q1 Q3;go_wp2_with fail;clear z0 z1 z2 z3 z4 z5;obtain⟨v0,v1,v2,v3,v4,v5⟩:=FB.out.eZ;refine aN (v:=.tuple #[bn #[K L b.me,J no nn nc,J ao an ac,J so sn sc,J eo en ec,J oo dL oc],aj ak]) (by simp [results,aK,go_sem,v0,v1,v2,v3,v4,v5]) rfl ?_;rw [LQ.out];exact⟨⟨(no,nn,nc),(ao,an,ac),(so,sn,sc),(eo,en,ec),(oo,dL,oc),rfl,HH.out.on FL.out,fun h=>h.on FL.out,fun h=>(h.resolve_right (by simp)).on FL.out,Or.inl rfl⟩,FL.out⟩
theorem Uh (b:Br) (e:En) (nv av sv ev ov:Sl) (x:iF) (w:aH) (h:iA w b nv av sv ev ov) (he:je w x e) (hf:Py b) (hp:xC b) (hr:kg b.ent) (hok:∀ e∈b.ent,dQ e.p) (hoe:dQ e.p) :
  aX aA 22 #[nT b.me nv av sv ev ov,qZ x] w (uR w (kK w nv b.near) (Yl w b nv av sv ev ov) (gP b e)) :=
 (Po b e nv av sv ev ov x w h he hf hp hr hok hoe).mono fun _ _ h=>h.two
theorem Ir (b:Br) (e:En) (nv av sv ev ov:Sl) (x:iF) (w:aH) (h:iA w b nv av sv ev ov) (he:je w x e) (hf:Py b) (hp:xC b) (hr:kg b.ent) (hok:∀ e∈b.ent,dQ e.p) (hoe:dQ e.p) :
  aX aA 22 #[nT b.me nv av sv ev ov,qZ x] w (JE w (kK w nv b.near) (gP b e)) :=
 (Uh b e nv av sv ev ov x w h he hf hp hr hok hoe).mono fun _ _ h=>h.one
end Sb
end Go.Proofs.YtkcfgbddlpomgaaGreat
