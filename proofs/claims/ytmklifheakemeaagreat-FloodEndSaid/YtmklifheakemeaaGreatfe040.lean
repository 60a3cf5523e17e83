/-
  branch of package su. Conditions as told.
-/
import Derived.Test.YtmklifheakemeaaGreatfe039
set_option maxRecDepth 100000
set_option maxHeartbeats 64000000
open _root_.Bool renaming false->au,true->aR
open _root_.Go renaming World->aN,Value->aX,Calls->aY
open Go.Ending renaming returned->aJ
open Go.IntKind renaming i64->L
open Go.Lib renaming hid->D
open Go.Obj renaming cells->ay
open Go.Proofs.Tryz renaming prog->aD,results94->aL,results26->bf
open Go.RowKit.Below renaming refl->aP
open Go.Value renaming slice->J,int->K,bool->aj,pointer->aZ,agg->bn
open _root_.List renaming getElem?_cons_zero->O,getElem?_cons_succ->Q,getElem?_toArray->U,getElem?_eq_getElem->ak,getElem?_eq_some_iff->aB,mem_of_getElem?->aC,length_take->aG,takeWhile_cons->aH,takeWhile_sublist->aK,length_drop->aM,getElem?_drop->aO,take_append_drop->aS,getElem?_map->aT,append_assoc->aU,length_cons->aV
open _root_.Nat renaming le_trans->aF,le_refl->aQ,zero_le->aW,lt_or_ge->bg
open _root_.Option renaming none->ah,some->aA
open Option.some renaming inj->aI
namespace Go.Proofs.YtmklifheakemeaaGreat
namespace Sb
open Go.RowKit Go.Sort Rw YtmklifheakemeaaGreat.Nm Pr Bk Av
def cutV (v:Sl) (f k:Nat):Sl:=match v with
 | (aA a,_,c)=>(aA (if c=f then a else a.add (f * 7)),k,c-f)
 | (ah,_,_)=>(ah,0,0)
theorem Vx {α:Type} (p:α->Bool):∀ (l:List α) (j:Nat) (y:α),j<(l.takeWhile p).length->l[j]?=aA y->p y=aR
 | [],_,_,_,h=>by simp at h
 | a::l,j,y,hj,h=>by
  by_cases ha:p a=aR
  ·rw [aH,if_pos ha,aV] at hj;cases j with
   | zero=>rw [<- aI (show aA a=aA y from h)]; exact ha
   | succ j=>exact Vx p l j y (by omega) (by simpa using h)
  ·rw [aH,if_neg ha] at hj;simp at hj
theorem Vy {α:Type} (p:α->Bool):∀ (l:List α) (y:α),l[(l.takeWhile p).length]?=aA y->p y=au
 | [],_,h=>by simp at h
 | a::l,y,h=>by
  by_cases ha:p a=aR
  ·rw [aH,if_pos ha,aV] at h;exact Vy p l y (by simpa using h)
  ·rw [aH,if_neg ha] at h;rw [<- aI (show aA a=aA y from h)];simpa using ha
theorem QO (a:Addr) (f e len cap:Nat) (h:f<=e) (h6:e<=cap) (w:aN):(Instr.sliceAt 25 (J (aA a) len cap) (aA (K L f)) (aA (K L e)) ah).run aD w=.ok (dU (cutV (aA a,len,cap) f (e-f))) w:=by
 have h1:(f:Int)<=(e:Int):=by omega
 have h3:(e:Int)<=cap:=by omega
 obtain⟨i,i1,i2,i3,i4⟩:=nO.info;have i1':Tryz.prog.info? 66=aA i:=i1;have hu':Tryz.prog.underlying 25=aA (.slice 66):=nO.hu;have i3':i.size=7:=i3;by_cases he:cap=f
 ·subst he;obtain rfl:e=cap:=by omega
  simp [go_sem,hu',sizeOf,typeInfo,i1',i3',cutV]
 ·simp [go_sem,hu',sizeOf,typeInfo,i1',i3',cutV,he,h,h6]
theorem Oy {W:aN} {v:Sl} {l:List iq} (h:lI W (dU v) l) (f k:Nat) (hk:f+k<=l.length) :
  (∀ w,(Instr.sliceAt 25 (dU v) (aA (K L f)) (aA (K L ((f+k:Nat):Int))) ah).run aD w=.ok (dU (cutV v f k)) w)/\lI W (dU (cutV v f k)) ((l.drop f).take k):=by
 obtain⟨so,sn,sc⟩:=v;rcases h with⟨rfl,hv⟩|⟨a,cap,hv,h2,h3,h4⟩
 ·obtain⟨rfl,rfl,rfl⟩:so=ah/\sn=0/\sc=0:=by simpa using hv
  obtain⟨rfl,rfl⟩:f=0/\k=0:=by simp at hk; omega
  refine⟨fun w=>?_,Or.inl ⟨rfl,rfl⟩⟩;obtain⟨i,i1,i2,i3,i4⟩:=nO.info;have i1':Tryz.prog.info? 66=aA i:=i1;have hu':Tryz.prog.underlying 25=aA (.slice 66):=nO.hu;simp [go_sem,hu',sizeOf,typeInfo,i1',cutV]
 ·obtain⟨rfl,rfl,rfl⟩:so=aA a/\sn=l.length/\sc=cap:=by simpa using hv
  refine⟨fun w=>by have h:=QO a f (f+k) l.length sc (Nat.le_add_right _ _) (aF hk h2) w; rwa [Nat.add_sub_cancel_left] at h,?_⟩;refine Or.inr ⟨(if sc=f then a else a.add (f * 7)),sc-f,?_,?_,by omega,fun j u hj=>?_⟩
  ·have e:((l.drop f).take k).length=k:=by rw [aG,aM]; omega
   rw [e]
   rfl
  ·rw [aG,aM]; omega
  ·have hlt:=(aB.1 hj).1;have hlen:(flat EN ((l.drop f).take k)).length=k * 7:=by
    rw [eB nO,aG,aM];show _ * 7=_;rw [show min k (l.length-f)=k by omega]
   rw [hlen] at hlt;rw [if_neg (by omega),add_add];refine h4 _ u ?_;have e1:flat EN l=flat EN (l.take f)++(flat EN ((l.drop f).take k)++flat EN ((l.drop f).drop k)):=by
    rw [<- gV,aS,<- gV,aS]
   have e2:(flat EN (l.take f)).length=f * 7:=by
    rw [eB nO,aG];show _ * 7=_;rw [show min f l.length=f by omega]
   rw [e1,List.getElem?_append_right (by rw [e2]; omega),e2,show f * 7+j-f * 7=j by omega,List.getElem?_append_left (by rw [hlen]; exact hlt)];exact hj
theorem yS (m:List En) (t:fC):jY m t+(wC m t).length<=m.length:=by
 have h1:(wC m t).length<=(m.drop (jY m t)).length:=(aK _).length_le;have h2:jY m t<=m.length:=(aK _).length_le;rw [aM] at h1;omega
theorem Cm (v:Sl) (l:List iq) (m:List En) (t:fC) (w:aN) (hv:lI w (dU v) l) (hA:eP (jm w) l m) (hr:mQ m) (hl:l.length<=1000) :
  aY aD 73 #[dU v,mM t] w fun e w'=>e=aJ (dU (cutV v (jY m t) (wC m t).length))/\Below w.heap.size w w':=by
 have hfk:=yS m t;have hML:l.length=m.length:=hA.len;obtain⟨f,hf⟩:∃ f,jY m t=f:=⟨_,rfl⟩;obtain⟨k,hk⟩:∃ k,(wC m t).length=k:=⟨_,rfl⟩;rw [hf,hk] at hfk ⊢;have RC:=D ((Oy hv f k (by omega)).1);obtain⟨so,n,sc⟩:=v;generalize cutV (so,n,sc) f k=z at RC ⊢;obtain⟨z1,z2,z3⟩:=z;have hn:l.length=n:=jq hv;obtain⟨c,d⟩:=t;obtain⟨h0,X,Y⟩:=gP w #[J so n sc] #[K L c,K L d] 25 31;have BB:=D h0;have HV:=D (hv.on h0);have HA:=D (hA.mono fun _ _ q=>q.on h0);have X1:=D X;have Y1:=D Y;have x0:=X.cell 0;simp only [U,O] at x0;have FL:∀ (i:Nat) (e:En),i<f->m[i]?=aA e->eH e.tree (c,d)=aR:=fun i e hi he=>Vx (fun e:En=>eH e.tree (c,d)) m i e (by unfold jY at hf; omega) he;have FH:∀ (i:Nat) (e:En),f<=i->m[i]?=aA e->eH e.tree (c,d)=au:=fun i e hi he=>by
  refine Lu (c,d) hr e ?_;rw [<- Bz];unfold jY at hf;rw [hf];exact aC (show (m.drop f)[i-f]?=aA e by rw [aO,show f+(i-f)=i by omega]; exact he)
 have BL:=D (show ∀ (i:Nat) (e:En),i<k->m[f+i]?=aA e->e.tree=(c,d) from fun i e hi he=>by
  have:=Vx (fun e:En=>decide (e.tree=(c,d))) (m.drop f) i e (by unfold wC at hk; rw [hf] at hk; omega) (by rw [aO]; exact he);exact of_decide_eq_true this)
 have BH:=D (show ∀ (e:En),m[f+k]?=aA e->e.tree≠(c,d) from fun e he=>by
  have:=Vy (fun e:En=>decide (e.tree=(c,d))) (m.drop f) e (by unfold wC at hk; rw [hf] at hk; rw [hk,aO]; exact he);exact of_decide_eq_false this)
 have HF:=D (show ∀ i,i<n->∀ W,Below ((w.alloc (ay #[J so n sc] 25)).alloc (ay #[K L c,K L d] 31)).heap.size ((w.alloc (ay #[J so n sc] 25)).alloc (ay #[K L c,K L d] 31)) W ->
   aY aD 119 (#[K L i]++#[aZ (aA ⟨w.heap.size,0,ah⟩),aZ (aA ⟨w.heap.size+1,0,ah⟩)]) W fun e w'=>e=aJ (aj ((fun i=>match l[i]? with | some y=>!eH (y.1,y.2.1) (c,d) | none=>aR) i))/\Below W.heap.size W w' from fun i hi W hb=>by
  obtain⟨y,hy⟩:∃ y,l[i]?=aA y:=⟨_,ak (by omega)⟩;refine Za i _ _ so n sc l (c,d) y _ W (HV.out.on hb) hn hy ?_ (X1.out.on hb) (Y1.out.on hb);simp only [hy])
 have HLO:=D (show ∀ i,i<f->(fun i=>match l[i]? with | some y=>!eH (y.1,y.2.1) (c,d) | none=>aR) i=au from fun i hi=>by
  obtain⟨y,hy⟩:∃ y,l[i]?=aA y:=⟨_,ak (by omega)⟩;obtain⟨e,he,hke,hx⟩:=mF HA.out hy;have h1:=FL i e hi he;rw [<- hx.1] at h1;simp only [hy,h1]
  rfl)
 have HHI:=D (show ∀ i,f<=i->i<n->(fun i=>match l[i]? with | some y=>!eH (y.1,y.2.1) (c,d) | none=>aR) i=aR from fun i hi hi2=>by
  obtain⟨y,hy⟩:∃ y,l[i]?=aA y:=⟨_,ak (by omega)⟩;obtain⟨e,he,hke,hx⟩:=mF HA.out hy;have h1:=FH i e hi he;rw [<- hx.1] at h1;simp only [hy,h1]
  rfl)
 have HN:=D hn;have ln:n<=1000:=by omega
 have als:f+k<=n:=by omega
 clear hv hA h0 X Y hk hf hl hn hr hfk hML FL FH;go_enter Tryz.func73,Tryz.ntmps73;go_wp2_with fail;generalize (w.alloc (ay #[J so n sc] 25)).alloc (ay #[K L c,K L d] 31)=W at *;refine (Cb 119 #[aZ (aA ⟨w.heap.size,0,ah⟩),aZ (aA ⟨w.heap.size+1,0,ah⟩)] YZ n f _ W (by omega) HF.out (by omega) HLO.out HHI.out).mono ?_;rintro e1 w1 ⟨rfl,hb⟩;have B1:=D hb;clear x0 HF HLO HHI hb;go_wp2
 go_loopw [6] (fun i wr=>∃ j:Nat,j<=k/\i=K L ((f+j:Nat):Int)/\Below W.heap.size W wr) (fun i _=>f+k-(intOf i).toNat)
 case atStart=>exact⟨0,aW _,by simp,B1.out⟩
 case round =>
  obtain⟨j,hj,rfl,hbe⟩:=hrel;have BE:=D hbe;have a0:=cell_regrown (show wr.cell? ⟨w.heap.size,0,ah⟩=aA (J so n sc) from (X1.out.on hbe).cell 0);have b0:=cell_regrown (show wr.cell? ⟨w.heap.size+1,0,ah⟩=aA (K L c) from (Y1.out.on hbe).cell 0);have b1:=cell_regrown (show wr.cell? ⟨w.heap.size+1,1,ah⟩=aA (K L d) from (Y1.out.on hbe).cell 1);have BN:=D (fun dq osq=>BE.out.trans ((below_regrown wr dq osq).mono BE.out.size));clear hbe;by_cases hjk:j<k
  ·obtain⟨y,hy⟩:∃ y,l[f+j]?=aA y:=⟨_,ak (by rw [HN.out]; omega)⟩;obtain⟨p,ix,p0,p1,p2,p3,p4,p5,p6⟩:=Cc HV.out rfl HN.out hy BE.out;obtain⟨e,he,_,hx⟩:=mF HA.out hy;have ht:(y.1,y.2.1)=(c,d):=hx.1.trans (BL.out j e hjk he);have hjn:f+j<n:=by omega
   have g4:decide (((f+j:Nat):Int)<(n:Int))=aR:=by simp; omega
   have hw3:IntKind.i64.wrap (((f+j:Nat):Int)+1)=((f+(j+1):Nat):Int):=by rw [IntWalk.i64_in _ (by omega)]; omega
   obtain⟨y1,y2,y3,y4,⟨yo,yn,yc⟩,y6,y7⟩:=y;obtain⟨rfl,rfl⟩:y1=c/\y2=d:=by simpa using ht
   simp only at p0 p1;have e1:=qO y1 y2 y1 y2 aR (by simp);clear p2 p3 p4 p5 p6 hy he hx ht;generalize hq:f+j=q at *;have HQ:=D hq;clear hq;go_wp2;refine wp_region_quiet_below (by kernel_rfl) (by kernel_rfl) ?_
   repeat (go_big_quiet_step (fail))
   refine wpQuiet_nil ?_;intro _ hw';obtain⟨⟨dq,osq⟩,hw''⟩:=hw';subst hw'';go_wp2
   go_roundw
   case rel=>exact⟨j+1,by omega,by rfl,BN.out _ _⟩
   case measure =>
    have hq:=HQ.out;simp [intOf];omega
  ·obtain rfl:j=k:=by omega
   have RC2:=RC.out;by_cases hjn:f+j<n
   ·obtain⟨y,hy⟩:∃ y,l[f+j]?=aA y:=⟨_,ak (by rw [HN.out]; omega)⟩;obtain⟨p,ix,p0,p1,p2,p3,p4,p5,p6⟩:=Cc HV.out rfl HN.out hy BE.out;obtain⟨e,he,_,hx⟩:=mF HA.out hy;have ht:(y.1,y.2.1)≠(c,d):=fun q=>BH.out e he (hx.1.symm.trans q);have g4:decide (((f+j:Nat):Int)<(n:Int))=aR:=by simp; omega
    obtain⟨y1,y2,y3,y4,⟨yo,yn,yc⟩,y6,y7⟩:=y;simp only at p0 p1;have e1:=qO y1 y2 c d au (Bool.eq_false_iff.2 fun h=>ht (by simp at h; rw [h.1,h.2]));clear p2 p3 p4 p5 p6 hy he hx ht;generalize f+j=q at *;go_wp2;refine wp_region_quiet_below (by kernel_rfl) (by kernel_rfl) ?_
    repeat (go_big_quiet_step (fail))
    refine wpQuiet_nil ?_;intro _ hw';obtain⟨⟨dq,osq⟩,hw''⟩:=hw';subst hw'';have a0:=a0 dq osq;go_wp2;go_ret;exact⟨rfl,BB.out.trans ((BN.out _ _).mono BB.out.size)⟩
   ·have g4:decide (((f+j:Nat):Int)<(n:Int))=au:=by simp; omega
    generalize f+j=q at *;go_wp2;refine wp_region_quiet_below (by kernel_rfl) (by kernel_rfl) ?_
    repeat (go_big_quiet_step (fail))
    refine wpQuiet_nil ?_;intro _ hw';obtain⟨⟨dq,osq⟩,hw''⟩:=hw';subst hw'';have a0:=a0 dq osq;go_wp2;go_ret;exact⟨rfl,BB.out.trans ((BN.out _ _).mono BB.out.size)⟩
end Sb
namespace Sb
open Go.RowKit Go.Sort Rw YtmklifheakemeaaGreat.Nm Pr Bk Av Rl
theorem Vz (nW bv:aX) (p q:List C5) (w:aN) (ha:fI w nW p) (hb:fI w bv q) (hp:dZ p) (hq:dZ q) :
  aY aD 156 #[nW,bv] w fun e w'=>e=aJ (aj (nD p q))/\Below w.heap.size w w':=by
 obtain⟨a,na,rfl⟩:=hp;obtain⟨b,nb,rfl⟩:=hq;unfold nD;rw [qd,qd];exact Mj nW bv a b w ha hb na nb
theorem adi {α:Type} (f:α->Bool) {l:List α} (h:∀ (j:Nat) (y:α),j<l.length->l[j]?=aA y->f y=au):l.any f=au:=by
 rw [List.any_eq_false];intro e he;obtain⟨j,hj,hje⟩:=List.getElem_of_mem he;simpa using h j e hj (by rw [ak hj,hje])
theorem adj {α:Type} (f:α->Bool) {l:List α} {k:Nat} {y:α} (h:l[k]?=aA y) (hf:f y=aR):l.any f=aR:=by
 rw [List.any_eq_true];exact⟨y,aC h,hf⟩
abbrev cE (p:List C5) (e:En):Bool:=e.up && nD e.p p
theorem Ju (v:Sl) (pv:aX) (l:List iq) (m:List En) (p':List C5) (w:aN) (hs:lI w (dU v) l) (hu:eP (jm w) l m) (hp:fI w pv p') (hok:∀ e∈m,dZ e.p) (hop:dZ p') :
  aY aD 117 #[dU v,pv] w fun e w'=>e=aJ (aj (Uo m p'))/\Below w.heap.size w w':=by
 have HU:=D hu;have HP:=D hp;have OK:=D hok;have OP:=D hop;obtain⟨pa,pc,rfl⟩:=hp.len;generalize p'.length=pn at *;obtain⟨so,n,sc⟩:=v;have hn:=jq hs;have HS:=D hs;have lm:=hs.most;unfold maxLen at lm;rw [hn] at lm;have HN:=D hn;clear hu hp hok hop hs hn;go_enter Tryz.func117,Tryz.ntmps117;go_wp2
 go_loopw [9] (fun i wr=>∃ k:Nat,k<=n/\i=K L k/\Below w.heap.size w wr/\∀ (j:Nat) (y:En),j<k->m[j]?=aA y->cE p' y=au) (fun i _=>n-(intOf i).toNat)
 case atStart=>exact⟨0,aW _,rfl,aP _ _,fun j y h=>by omega⟩
 case round =>
  obtain⟨k,hk,rfl,hbe,hall⟩:=hrel;have BE:=D hbe;have AL:=D hall;clear hbe hall;by_cases hlt:k<n
  ·obtain⟨y,hy⟩:∃ y,l[k]?=aA y:=⟨_,ak (by rw [HN.out]; exact hlt)⟩;obtain⟨q,ix,px⟩:=Kh HS.out rfl HN.out hy;obtain⟨p0,p1,p2,p3,p4,p5,p6⟩:=px wr BE.out;obtain⟨e,he,_,hin⟩:=mF HU.out hy;obtain⟨y1,y2,y3,y4,⟨yo,yn,yc⟩,y6,y7⟩:=y;simp only at p0 p1 p2 p3 p4 p5 p6;have NB:=D (fM wr (ay #[K L y1,K L y2,K L y3,K L y4,J yo yn yc,K L y6,aj y7] 66));have hw3:IntKind.i64.wrap ((k:Int)+1)=(k:Int)+1:=IntWalk.i64_in _ (by omega);obtain⟨t,ht⟩:∃ r,nD e.p p'=r:=⟨_,rfl⟩;have HV:=D (show cE p' e=(y7 && t) by unfold cE; rw [<- hin.2.2.2.1,ht]);have HE:=D he;have BF:=D (BE.out.trans (NB.out.mono BE.out.size));have CV:=D (Vz (J yo yn yc) (J pa pn pc) e.p p' _ (hin.2.2.2.2.on BF.out) (HP.out.on BF.out) (OK.out _ (aC he)) OP.out);rw [ht] at CV;clear px hy ht he hin;cases y7
   ·clear CV;go_wp2
    go_roundw
    case rel=>exact⟨k+1,by omega,by go_num,BF.out,fun j y' hj h1=>by
     rcases bg j k with h3|h3
     ·exact AL.out j y' h3 h1
     ·obtain rfl:j=k:=by omega
      have e1:=HE.out;rw [h1] at e1;rw [aI e1];exact HV.out.trans (by simp)⟩
    case measure=>simp [intOf]; omega
   ·go_wp2_with fail;refine CV.out.mono ?_;rintro e3 w3 ⟨rfl,hb⟩;have BG:=D (BF.out.trans (hb.mono BF.out.size));clear CV hb p0 p1 p2 p3 p4 p5 p6 ix;cases t
    ·go_wp2
     go_roundw
     case rel=>exact⟨k+1,by omega,by go_num,BG.out,fun j y' hj h1=>by
      rcases bg j k with h3|h3
      ·exact AL.out j y' h3 h1
      ·obtain rfl:j=k:=by omega
       have e1:=HE.out;rw [h1] at e1;rw [aI e1];exact HV.out.trans (by simp)⟩
     case measure=>simp [intOf]; omega
    ·have hd:Uo m p'=aR:=adj (cE p') HE.out (HV.out.trans (by simp));go_wp2;go_ret;exact⟨by rw [hd]; rfl,BG.out⟩
  ·obtain rfl:k=n:=by omega
   have hd:Uo m p'=au:=adi (cE p') fun j y hj h=>AL.out j y (by rw [<- HN.out,HU.out.len]; exact hj) h;go_wp2;go_ret;exact⟨by rw [hd]; rfl,BE.out⟩
theorem VA {W:aN} {v:Sl} {l:List iq} {m:List En} (hv:lI W (dU v) l) (hA:eP (jm W) l m) (t:fC):lI W (dU (cutV v (jY m t) (wC m t).length)) ((l.drop (jY m t)).take (wC m t).length)/\eP (jm W) ((l.drop (jY m t)).take (wC m t).length) (wC m t):=by
 refine⟨(Oy hv _ _ (by rw [hA.len]; exact yS m t)).2,?_⟩;have h:=(hA.drop (jY m t)).take (wC m t).length;have e:(m.drop (jY m t)).take (wC m t).length=wC m t:=by
  unfold wC
  conv=>lhs; arg 2; rw [<- List.takeWhile_append_dropWhile (p:=fun e:En=>decide (e.tree=t)) (l:=m.drop (jY m t))]
  rw [List.take_left]
 rw [e] at h;exact h
theorem VB (m:List En) (t:fC):∀ e∈wC m t,e∈m:=fun _ he=>List.mem_of_mem_drop ((aK _).subset he)
theorem VD (me:Int) (nv av sv ov:aX) (ev:Sl) (l:List iq) (m:List En) (t:fC) (pv:aX) (p':List C5) (w:aN) (hs:lI w (dU ev) l) (hu:eP (jm w) l m) (hr:mQ m) (hl:l.length<=1000) (hp:fI w pv p') (hok:∀ e∈m,dZ e.p) (hop:dZ p') :
  aY aD 146 #[bn #[K L me,nv,av,sv,dU ev,ov],mM t,pv] w fun e w'=>e=aJ (aj (fD m t p'))/\Below w.heap.size w w':=by
 obtain⟨pa,pc,rfl⟩:=hp.len;obtain⟨so,n,sc⟩:=ev;obtain⟨c,d⟩:=t;obtain⟨h0,X,Y⟩:=gP w #[K L me,nv,av,sv,J so n sc,ov] #[K L c,K L d] 28 31;have B:=D h0;have x4:=X.cell 4;obtain⟨y0,y1⟩:=Y.cs2;simp only [U,O,Q] at x4;have BR:=D (Cm (so,n,sc) l m (c,d) _ (hs.on h0) (hu.mono fun _ _ q=>q.on h0) hr hl);obtain⟨q1,q2⟩:=VA (hs.on h0) (hu.mono fun _ _ q=>q.on h0) (c,d);have Q1:=D q1;have Q2:=D q2;have HP:=D (hp.on h0);have OK:=D (fun e he=>hok e (VB m (c,d) e he));have CB:=D (ac0 hr (c,d) p');generalize p'.length=pn at *;generalize fD m (c,d) p'=r at *;generalize cutV (so,n,sc) (jY m (c,d)) (wC m (c,d)).length=z at *;obtain⟨z1,z2,z3⟩:=z;clear h0 X Y hs hu hr hl hp hok q1 q2;go_enter Tryz.func146,Tryz.ntmps146;go_wp2_with fail;generalize (w.alloc (ay #[K L me,nv,av,sv,J so n sc,ov] 28)).alloc (ay #[K L c,K L d] 31)=W at *;refine BR.out.mono ?_;rintro e1 w1 ⟨rfl,hb⟩;have HB:=D hb;have CV:=D (Ju (z1,z2,z3) (J pa pn pc) _ (wC m (c,d)) p' w1 (Q1.out.on hb) (Q2.out.mono fun _ _ q=>q.on hb) (HP.out.on hb) OK.out hop);clear x4 y0 y1 hb BR;go_wp2_with fail;refine CV.out.mono ?_;rintro e2 w2 ⟨rfl,hb2⟩;go_wp2;go_ret;exact⟨by rw [<- CB.out]; rfl,B.out.trans ((HB.out.trans (hb2.mono HB.out.size)).mono B.out.size)⟩
def zl (m:List En) (t s:fC):Option En:=match m[eT (m.map fB) (t,s)]? with
 | none=>ah
 | some e=>if fB e=(t,s) then aA e else ah
def FiQ (w:aN) (o:Option En) (e:Ending) (w':aN):Prop:=(match o with
 | none=>e=aJ (.tuple #[pF (0,0,0,0,(ah,0,0),0,au),aj au])
 | some a=>∃ r:iq,e=aJ (.tuple #[pF r,aj aR])/\jm w' r a)/\Below w.heap.size w w'
theorem EK {m:List En} {t s:fC} (h:lg m t s=aR):∃ e,m[eT (m.map fB) (t,s)]?=aA e/\fB e=(t,s)/\zl m t s=aA e:=by
 unfold lg at h;cases hm:m[eT (m.map fB) (t,s)]? with
 | none=>rw [hm] at h; cases h
 | some e =>
  rw [hm] at h;have hk:=of_decide_eq_true h;exact⟨e,rfl,hk,by unfold zl; rw [hm]; simp only; rw [if_pos hk]⟩
theorem VE {m:List En} {t s:fC} (h:lg m t s=au):zl m t s=ah:=by
 unfold lg at h;unfold zl;cases hm:m[eT (m.map fB) (t,s)]? with
 | none=>rfl
 | some e =>
  rw [hm] at h;simp only;rw [if_neg (of_decide_eq_false h)]
theorem QT (me:Int) (nv av sv ov:aX) (ev:Sl) (l:List iq) (m:List En) (t s:fC) (w:aN) (hs:lI w (dU ev) l) (hu:eP (jm w) l m) (hr:mQ m) (hl:l.length<=1000) (hf:∀ e∈m,e.p.length<=900) :
  aY aD 26 #[bn #[K L me,nv,av,sv,dU ev,ov],mM t,mM s] w (FiQ w (zl m t s)):=by
 obtain⟨so,n,sc⟩:=ev;obtain⟨c,d⟩:=t;obtain⟨g,h⟩:=s;obtain⟨h0,X,Y,Z,V⟩:=Bj w #[K L me,nv,av,sv,J so n sc,ov] #[K L c,K L d] #[K L g,K L h] #[K L 0,K L 0,K L 0,K L 0,J ah 0 0,K L 0,aj au] 28 31 31 66;have B:=D h0;have x4:=X.cell 4;obtain⟨y0,y1⟩:=Y.cs2;obtain⟨z0,z1⟩:=Z.cs2;simp only [U,O,Q] at x4;have HS:=D (hs.on h0);have HU:=D (hu.mono fun _ _ q=>q.on h0);have PL:=D (Es (so,n,sc) l m (c,d) (g,h) _ HS.out HU.out hr hl);have X1:=D X;have V1:=D V;have HF:=D hf;have hn:=jq hs;have HN:=D hn;obtain⟨th,hth⟩:∃ k,lg m (c,d) (g,h)=k:=⟨_,rfl⟩;rw [hth] at PL;obtain⟨k,hk⟩:∃ k,eT (m.map fB) ((c,d),(g,h))=k:=⟨_,rfl⟩;rw [hk] at PL;have HK:=D hk;obtain⟨fo,hfo⟩:∃ o,zl m (c,d) (g,h)=o:=⟨_,rfl⟩;rw [hfo];have FO:=D hfo;have SV:=D V.lt;clear h0 X Y Z V hs hu hr hl hf hn hk hfo;go_enter Tryz.func26,Tryz.ntmps26;go_wp2_with fail;generalize (((w.alloc (ay #[K L me,nv,av,sv,J so n sc,ov] 28)).alloc (ay #[K L c,K L d] 31)).alloc (ay #[K L g,K L h] 31)).alloc (ay #[K L 0,K L 0,K L 0,K L 0,J ah 0 0,K L 0,aj au] 66)=W at *;refine PL.out.mono ?_;rintro e1 w1 ⟨rfl,hb⟩;have HB:=D hb;have X2:=D (X1.out.on hb);have V2:=V1.out.on hb;have BB:=D (B.out.trans (hb.mono B.out.size));clear x4 y0 y1 z0 z1 PL hb;have x4:=X2.out.cell 4;simp only [U,O,Q] at x4;cases th
 ·have FN:=D (show fo=ah by rw [<- FO.out]; exact VE hth);obtain⟨v0,v1,v2,v3,v4,v5,v6⟩:=V2.mI;obtain⟨f0,f1,f2,f3,f4,f5,f6⟩:=V2.Yb;have zz:=V2.lt;have FB:=D (tF V2 (K L 0) (K L 0) (K L 0) (K L 0) (J ah 0 0) (K L 0) (aj au));have BL:=D (oZ (b:=w.heap.size+1+1+1) BB.out (by omega) (K L 0) (K L 0) (K L 0) (K L 0) (J ah 0 0) (K L 0) (aj au));clear V2 hth;go_wp2_with fail;clear v0 v1 v2 v3 v4 v5 v6;obtain⟨v0,v1,v2,v3,v4,v5,v6⟩:=FB.out.mI;refine bodyPost_ret (v:=.tuple #[bn #[K L 0,K L 0,K L 0,K L 0,J ah 0 0,K L 0,aj au],aj au]) (by simp [results,bf,go_sem,v0,v1,v2,v3,v4,v5,v6]) rfl ?_;rw [FN.out];exact⟨rfl,BL.out⟩
 ·obtain⟨e,he,hke,hfe⟩:=EK hth;have FE:=D (show fo=aA e by rw [<- FO.out]; exact hfe);rw [HK.out] at he;have hkm:=(aB.1 he).1;have hkn:k<n:=by rw [<- HN.out,HU.out.len]; exact hkm
  obtain⟨y,hy,hx⟩:=HU.out.at k e he;obtain⟨p,ix,px⟩:=Kh HS.out rfl HN.out hy;obtain⟨p0,p1,p2,p3,p4,p5,p6⟩:=px w1 HB.out;obtain⟨y1,y2,y3,y4,⟨yo,yn,yc⟩,y6,y7⟩:=y;simp only at p0 p1 p2 p3 p4 p5 p6;have CP:=D (Aa (y1,y2,y3,y4,(yo,yn,yc),y6,y7) e.p w1 (hx.2.2.2.2.on HB.out) (HF.out e (aC he)));have HX:=D hx;have V3:=D V2;clear px hy hx he hke hfe hth V2 hkm;go_wp2_with fail;refine CP.out.mono ?_;rintro e2 w2 ⟨⟨⟨u1,u2,u3⟩,rfl,ho⟩,hb⟩;have Y1:=V3.out.on hb;have SZ:=D (show w.heap.size+1+1+1<w1.heap.size from V3.out.lt);have B2:=D (BB.out.trans (hb.mono BB.out.size));clear CP hb p0 p1 p2 p3 p4 p5 p6 ix x4;obtain⟨v0,v1,v2,v3,v4,v5,v6⟩:=Y1.mI;obtain⟨f0,f1,f2,f3,f4,f5,f6⟩:=Y1.Yb;have zz:=Y1.lt;have FB:=D (tF Y1 (K L y1) (K L y2) (K L y3) (K L y4) (J u1 u2 u3) (K L y6) (aj y7));have BL:=D (oZ (b:=w.heap.size+1+1+1) B2.out (by omega) (K L y1) (K L y2) (K L y3) (K L y4) (J u1 u2 u3) (K L y6) (aj y7));have FW:=D (I7 ho (w.heap.size+1+1+1) SZ.out (K L y1) (K L y2) (K L y3) (K L y4) (J u1 u2 u3) (K L y6) (aj y7));clear Y1 ho;go_wp2_with fail;clear v0 v1 v2 v3 v4 v5 v6;obtain⟨v0,v1,v2,v3,v4,v5,v6⟩:=FB.out.mI;refine bodyPost_ret (v:=.tuple #[bn #[K L y1,K L y2,K L y3,K L y4,J u1 u2 u3,K L y6,aj y7],aj aR]) (by simp [results,bf,go_sem,v0,v1,v2,v3,v4,v5,v6]) rfl ?_;rw [FE.out];exact⟨⟨(y1,y2,y3,y4,(u1,u2,u3),y6,y7),rfl,HX.out.1,HX.out.2.1,HX.out.2.2.1,HX.out.2.2.2.1,Row.dH FW.out⟩,BL.out⟩
theorem EM {w w':aN} {row:Option Nat} (h:w.grownBy w' row):Off row w w':=⟨h.block,h.size⟩
theorem adk {wr w0:aN} {B:Nat} {v:aX} {lu:List iq} {mu:List En} (x:iq) (e:En) (o:jV wr B v lu) (hA:eP (AJ w0 B wr) lu mu) (hx:AJ w0 B wr x e) (hn:lu.length<=1000) (hB:B<=wr.heap.size) :
  ∃ v' w',(Builtin.append_ #[25,25] 25 #[v,J (aA ⟨wr.heap.size,0,ah⟩) 1 1]).run aD (wr.alloc (ay (iH x).toArray 66))=.ok v' w'/\jV w' B v' (lu++[x])/\eP (AJ w0 B w') (lu++[x]) (mu++[e]) /\
   (∀ B' W,B'<=B->Below B' W wr->Below B' W w')/\Off v.ownBlock (wr.alloc (ay (iH x).toArray 66)) w':=by
 have NB:=fM wr (ay (iH x).toArray 66);have hlit:=iF nO wr [x] 1 rfl (by simp) (iH x).toArray rfl;have o2:jV _ B v lu:=Bk.dI o NB;have hB2:B<=(wr.alloc (ay (iH x).toArray 66)).heap.size:=aF hB NB.size;obtain⟨v',w',r',o',gr⟩:=gJ nO B o2 (Row.dH hlit) hn (by simp) hB2 25;refine⟨v',w',by simpa [EN] using r',o',?_,fun B' W hB' hb=>?_,EM gr⟩
 ·have hf:=EM gr;have hg:=jK o2;have g:∀ y z,AJ w0 B wr y z->AJ w0 B w' y z:=fun y z q=>(q.grow NB).off hf hg (by decide);exact (hA.mono g).append (.cons (g _ _ hx) .nil)
 ·exact (hb.trans (NB.mono (by have:=hb.size; omega))).grown gr (aF hB' hB2) fun j hj=>aF hB' (o2.lt j hj).1
theorem adl {w0 wr:aN} {B:Nat} {x:iq} {e:En} (h:AJ w0 B wr x e) (hl:Below w0.heap.size w0 wr):jm wr x e:=⟨h.1,h.2.1,h.2.2.1,h.2.2.2.1,h.2.2.2.2.row hl⟩
theorem Le (me:Int) (nv av sv ov:aX) (ev:Sl) (l:List iq) (m:List En) (t:fC) (w:aN) (hs:lI w (dU ev) l) (hu:eP (jm w) l m) (hr:mQ m) (hl:l.length<=900) (hf:∀ e∈m,e.p.length<=900) :
  aY aD 25 #[bn #[K L me,nv,av,sv,dU ev,ov],mM t] w fun e w'=>(∃ (v':Sl) (lu:List iq),e=aJ (dU v')/\lI w' (dU v') lu/\eP (jm w') lu (wC m t))/\Below w.heap.size w w':=by
 obtain⟨so,n,sc⟩:=ev;obtain⟨c,d⟩:=t;obtain⟨h0,X,Y⟩:=gP w #[K L me,nv,av,sv,J so n sc,ov] #[K L c,K L d] 28 31;have B:=D h0;have x4:=X.cell 4;obtain⟨y0,y1⟩:=Y.cs2;simp only [U,O,Q] at x4;have BR:=D (Cm (so,n,sc) l m (c,d) _ (hs.on h0) (hu.mono fun _ _ q=>q.on h0) hr (by omega));obtain⟨q1,q2⟩:=VA (hs.on h0) (hu.mono fun _ _ q=>q.on h0) (c,d);have hbl:(wC m (c,d)).length<=900:=by have:=yS m (c,d); have:=hu.len; omega
 have HF:=D (fun e he=>hf e (VB m (c,d) e he));generalize (l.drop (jY m (c,d))).take (wC m (c,d)).length=lb at *;generalize cutV (so,n,sc) (jY m (c,d)) (wC m (c,d)).length=z at *;obtain⟨z1,z2,z3⟩:=z;generalize wC m (c,d)=mb at *;have hn:lb.length=z2:=jq q1;have HN:=D hn;have hz:z2<=900:=by have:=q2.len; omega
 have Q1:=D q1;have Q2:=D q2;clear h0 X Y hs hu hr hl hf q1 q2 hn hbl;go_enter Tryz.func25,Tryz.ntmps25;go_wp2_with fail;generalize (w.alloc (ay #[K L me,nv,av,sv,J so n sc,ov] 28)).alloc (ay #[K L c,K L d] 31)=W at *;refine BR.out.mono ?_;rintro e1 w1 ⟨rfl,hb⟩;have HB:=D hb;have R1:=D (Q1.out.on hb);have R2:=D (Q2.out.mono fun _ _ q=>q.on hb);clear x4 y0 y1 BR hb Q1 Q2;go_wp2
 go_loopw [5,13] (fun v i wr=>∃ (k:Nat) (lu:List iq),k<=z2/\i=K L k/\Below w1.heap.size w1 wr/\jV wr w1.heap.size v lu/\eP (AJ w1 w1.heap.size wr) lu (mb.take k)) (fun _ i _=>z2-(intOf i).toNat)
 case atStart=>exact⟨0,[],aW _,rfl,aP _ _,iM _ _,by simpa using eP.nil⟩
 case round =>
  obtain⟨k,lu,hk,rfl,hbe,hown,hall⟩:=hrel;have BE:=D hbe;have OE:=D hown;have AE:=D hall;clear hbe hown hall;by_cases hlt:k<z2
  ·obtain⟨y,hy⟩:∃ y,lb[k]?=aA y:=⟨_,ak (by rw [HN.out]; exact hlt)⟩;obtain⟨q,ix,px⟩:=Kh R1.out rfl HN.out hy;obtain⟨p0,p1,p2,p3,p4,p5,p6⟩:=px wr BE.out;obtain⟨e,he,_,hin⟩:=mF R2.out hy;obtain⟨y1,y2,y3,y4,⟨yo,yn,yc⟩,y6,y7⟩:=y;simp only at p0 p1 p2 p3 p4 p5 p6;have NB:=D (fM wr (ay #[K L y1,K L y2,K L y3,K L y4,J yo yn yc,K L y6,aj y7] 66));have BF:=D (BE.out.trans (NB.out.mono BE.out.size));have hx:=dJ wr #[K L y1,K L y2,K L y3,K L y4,J yo yn yc,K L y6,aj y7] 66;obtain⟨v0,v1,v2,v3,v4,v5,v6⟩:=hx.mI;have hw3:IntKind.i64.wrap ((k:Int)+1)=(k:Int)+1:=IntWalk.i64_in _ (by omega);have CP:=D (Aa (y1,y2,y3,y4,(yo,yn,yc),y6,y7) e.p _ (hin.2.2.2.2.on BF.out) (HF.out e (aC he)));have HI:=D hin;have HE:=D he;clear px hy he hin hx;go_wp2_with fail;refine CP.out.mono ?_;rintro e3 w3 ⟨⟨⟨u1,u2,u3⟩,rfl,ho⟩,hb⟩;have BG:=BF.out.trans (hb.mono BF.out.size);have hl:lu.length=k:=by rw [AE.out.len,aG]; have:=HN.out; have:=R2.out.len; omega
   obtain⟨v',w',r',o',a',bl,_⟩:=adk (w0:=w1) (y1,y2,y3,y4,(u1,u2,u3),y6,y7) e (Bk.dI (Bk.dI OE.out NB.out) hb) (AE.out.mono fun _ _ q=>(q.grow NB.out).grow hb) ⟨HI.out.1,HI.out.2.1,HI.out.2.2.1,HI.out.2.2.2.1,Or.inr (dO ho BF.out.size)⟩ (by omega) (by have:=BG.size; omega);have O2:=D o';have A2:=D a';have B2:=D (bl _ w1 (aQ _) BG);have E2:=D (show mb.take (k+1)=mb.take k++[e] from List.take_succ_eq_append_getElem (aB.1 HE.out).1 ▸ by rw [(aB.1 HE.out).2]);clear CP hb ho BG hl o' a' bl v0 v1 v2 v3 v4 v5 v6 p0 p1 p2 p3 p4 p5 p6 ix NB BF;go_wp2_with (first | (at_builtin; refine wpList_append_run rfl _ _ 25 rfl rfl rfl r' ?_) | fail)
   go_roundw
   case rel=>exact⟨k+1,_,by omega,by go_num,B2.out,O2.out,by rw [E2.out]; exact A2.out⟩
   case measure=>simp [intOf]; omega
  ·obtain rfl:z2=k:=by omega
   have e:mb.take z2=mb:=List.take_of_length_le (by have:=HN.out; have:=R2.out.len; omega);rw [e] at AE;obtain⟨GK,GQ,hv⟩:=(Row.dH OE.out).len;subst hv;clear e;go_wp2;go_ret;exact⟨⟨(GK,_,GQ),lu,rfl,Row.dH OE.out,AE.out.mono fun _ _ q=>adl q BE.out⟩,B.out.trans ((HB.out.trans (BE.out.mono HB.out.size)).mono B.out.size)⟩
theorem jk {p:List C5} (h:dZ p):p.length<=900:=by
 obtain⟨a,na,rfl⟩:=h;rw [List.length_map];have:=na.five;omega
theorem Oz {α:Type} {E:Ek α} {W:aN} {B:Nat} {v:aX} {l:List α} (h:Own E W B v l):∀ b,v.ownBlock=aA b->B<=b:=by
 intro b hb;rcases gM h with⟨rfl,_⟩|⟨g',cap',cur,rfl,h2,_⟩
 ·cases hb
 ·obtain rfl:g'=b:=by simpa [Value.ownBlock] using hb
  exact h2
theorem PM.less {w0 wr:aN} {B B':Nat} {v:aX} {p:List C5} (h:PM w0 B wr v p) (hB:B'<=B):PM w0 B' wr v p:=h.imp id fun h=>dO h hB
theorem Cp.less {w0 wr:aN} {B B':Nat} {b:Br} {nv av sv ev ov:Sl} (h:Cp w0 B wr b nv av sv ev ov) (hB:B'<=B):Cp w0 B' wr b nv av sv ev ov where
 near:=dO h.near hB
 seen:=dO h.seen hB
 dQ:=by obtain⟨l,h1,h2⟩:=h.dQ; exact⟨l,dO h1 hB,h2.mono fun _ _ q=>⟨q.1,q.2.1,PM.less q.2.2 hB⟩⟩
 ent:=by obtain⟨l,h1,h2⟩:=h.ent; exact⟨l,dO h1 hB,h2.mono fun _ _ q=>⟨q.1,q.2.1,q.2.2.1,q.2.2.2.1,PM.less q.2.2.2.2 hB⟩⟩
 own:=by obtain⟨l,h1,h2⟩:=h.own; exact⟨l,dO h1 hB,h2.mono fun _ _ q=>⟨q.1,PM.less q.2 hB⟩⟩
def Mk (b:Br) (e:En):Br×Bool:=match gD b.dQ e.tree with
 | none=>(b,au)
 | some a=>if lg b.ent e.tree e.sub=aR then (b,au) else if e.from_=a.par/\a.par≠-1 then (b,au) else
  ({ b with ent:=gG b.ent (eT (b.ent.map fB) (e.tree,e.sub)) { e with up:=!(a.par == -1) && !fD b.ent e.tree e.p } },!(a.par == -1) && !fD b.ent e.tree e.p)
theorem xE {b:Br} (hr:mQ b.ent) {e:En}:Mk b e=ig b e:=by
 unfold Mk ig;have ft:=Bw hr e.tree e.sub;have ek:fB e=(e.tree,e.sub):=rfl;rw [ek,ft];by_cases h:fJ (b.dQ.map Ad.id) e.tree=-1
 ·have hn:gD b.dQ e.tree=ah:=rY fun j a hj=>uN (key:=Ad.id) h j a hj;rw [hn];cases b.dQ[(fJ (b.dQ.map Ad.id) e.tree).toNat]? with
  | none=>rfl
  | some a=>simp only; rw [if_pos h]
 ·obtain⟨k,hk⟩:∃ k:Nat,fJ (b.dQ.map Ad.id) e.tree=k:=⟨(fJ (b.dQ.map Ad.id) e.tree).toNat,by have:=nG (b.dQ.map Ad.id) e.tree; omega⟩;obtain⟨g1,g2⟩:=qP hk;rw [aT] at g1;cases ha:b.dQ[k]? with
  | none=>rw [ha] at g1; cases g1
  | some a =>
   rw [ha] at g1;have hx:a.id=e.tree:=aI g1;have hf:gD b.dQ e.tree=aA a:=sU ha hx fun j z hj hz=>g2 j z.id hj (by rw [aT,hz]; rfl);rw [hf,hk,Int.toNat_natCast,ha];simp only;rw [if_neg (show ¬ ((k:Int)=-1) by omega)];have e1:(!(a.par == -1))=decide (a.par≠-1):=by by_cases hp:a.par=-1 <;> simp [hp]
   rw [e1];by_cases ht:lg b.ent e.tree e.sub=aR
   ·rw [if_pos ht,if_pos ht,if_pos (by omega)]
   ·rw [if_neg ht,if_neg ht,if_neg (show ¬ ((-1:Int)≠-1) by simp)];by_cases hp:e.from_=a.par/\a.par≠-1
    ·rw [if_pos hp,if_pos ⟨by rw [hp.1]; exact hp.2,hp.1⟩]
    ·rw [if_neg hp,if_neg fun q=>hp ⟨q.2,by rw [<- q.2]; exact q.1⟩]
theorem VF (b:Br) (e:En) (nv av sv ev ov:Sl) (x:iq) (w:aN) (h:iZ w b nv av sv ev ov) (he:jm w x e) (hf:Rk b) (hp:yD b) (hr:mQ b.ent) (hok:∀ e∈b.ent,dZ e.p) (hoe:dZ e.p) :
  aY aD 94 #[rP b.me nv av sv ev ov,pF x] w (Gf w (om w nv b.near) (qb w b nv av sv ev ov) (ig b e)):=by
 obtain⟨no,nn,nc⟩:=nv;obtain⟨ao,an,ac⟩:=av;obtain⟨so,sn,sc⟩:=sv;obtain⟨eo,en,ec⟩:=ev;obtain⟨oo,dY,oc⟩:=ov;obtain⟨y1,y2,y3,y4,⟨yo,yn,yc⟩,y6,y7⟩:=x;obtain⟨h0,h1,h2,h3⟩:=gK w #[K L b.me,J no nn nc,J ao an ac,J so sn sc,J eo en ec,J oo dY oc] #[K L y1,K L y2,K L y3,K L y4,J yo yn yc,K L y6,aj y7] #[K L 0,J ah 0 0,J ah 0 0,J ah 0 0,J ah 0 0,J ah 0 0] 28 66 28;have BB:=D h0;have X1:=D h1;have X2:=D h2;have X3:=D h3;have HH:=D h;have EE:=D he;have HF:=D hf;have HP:=D hp;have HR:=D hr;have OK:=D hok;have OE:=D hoe;obtain⟨la,ha1,ha2⟩:=h.dQ;have SW:=D (sV b.me (J no nn nc) (J so sn sc) (J eo en ec) (J oo dY oc) (ao,an,ac) la b.dQ (y1,y2) _ (ha1.on BB.out) (ha2.mono fun _ _ q=>q.on BB.out) hp.dQ);have ET:=D (show e.tree=(y1,y2) from he.1.symm);have ES:=D (show e.sub=(y3,y4) from he.2.1.symm);have EF:=D (show e.from_=y6 from he.2.2.1.symm);obtain⟨x0,x1,x2,x3,x4,x5⟩:=X1.out.eZ;obtain⟨d0,d1,d2,d3,d4,d5,d6⟩:=X2.out.mI;clear h0 h1 h2 h3 h he hf hp hr hok hoe ha1 ha2 la;go_enter Tryz.func94,Tryz.ntmps94;go_wp2_with fail;generalize ((w.alloc (ay #[K L b.me,J no nn nc,J ao an ac,J so sn sc,J eo en ec,J oo dY oc] 28)).alloc (ay #[K L y1,K L y2,K L y3,K L y4,J yo yn yc,K L y6,aj y7] 66)).alloc (ay #[K L 0,J ah 0 0,J ah 0 0,J ah 0 0,J ah 0 0,J ah 0 0] 28)=W at *;refine SW.out.mono ?_;rintro e1 w1 ⟨hq,hb⟩;have B1:=D (BB.out.trans (hb.mono BB.out.size));have Z1:=D (X1.out.on hb);have Z2:=D (X2.out.on hb);have Z3:=D (X3.out.on hb);clear hb SW X1 X2 X3;clear x0 x1 x2 x3 x4 x5;clear d0 d1 d2 d3 d4 d5 d6;obtain⟨⟨r1,r2,⟨ro,rn,rc⟩,r4⟩,kn,rfl,hin⟩:∃ (r:jD) (kn:Bool),e1=aJ (.tuple #[mJ r,aj kn])/\((kn=au/\gD b.dQ (y1,y2)=ah)\/(kn=aR/\∃ a,gD b.dQ (y1,y2)=aA a/\r.2.2.2=a.par)):=by
  cases hfa:gD b.dQ (y1,y2) with
  | none =>
   rw [hfa] at hq;exact⟨_,au,hq,Or.inl ⟨rfl,rfl⟩⟩
  | some a =>
   rw [hfa] at hq;obtain⟨r,h1,h2⟩:=hq;exact⟨r,aR,h1,Or.inr ⟨rfl,a,rfl,h2.2.1⟩⟩
 have HI:=D hin;have nb:=fM w1 (ay #[K L r1,K L r2,J ro rn rc,K L r4] 74);have AB:=D (dJ w1 #[K L r1,K L r2,J ro rn rc,K L r4] 74);have B2:=D (B1.out.trans (nb.mono B1.out.size));have Y1:=D (Z1.out.on nb);have Y2:=D (Z2.out.on nb);have Y3:=D (Z3.out.on nb);obtain⟨les,hs1,hs2⟩:=HH.out.ent;have PL:=D (Es (eo,en,ec) les b.ent (y1,y2) (y3,y4) _ (hs1.on B2.out) (hs2.mono fun _ _ q=>q.on B2.out) HR.out (by rw [hs2.len]; have:=HF.out.ent; omega));have ahp:=D hs1;have afn:=D hs2;obtain⟨k,hk⟩:∃ k,eT (b.ent.map fB) ((y1,y2),(y3,y4))=k:=⟨_,rfl⟩;obtain⟨th,hth⟩:∃ k,lg b.ent (y1,y2) (y3,y4)=k:=⟨_,rfl⟩;rw [hk,hth] at PL;have HK:=D hk;have TH:=D hth;have KL:=D (show k<=b.ent.length by rw [<- hk]; simpa using mg (b.ent.map fB) ((y1,y2),(y3,y4)));have x4:=Y1.out.cell 4;simp only [U,O,Q] at x4;have d1:=Y2.out.cell 1;have d0:=Y2.out.cell 0;have d2:=Y2.out.cell 2;have d3:=Y2.out.cell 3;simp only [U,O,Q] at d0 d1 d2 d3;clear hin hq nb hs1 hs2 hk hth Z1 Z2 Z3;go_wp2_with fail;generalize hw2:w1.alloc (ay #[K L r1,K L r2,J ro rn rc,K L r4] 74)=w2 at *;refine PL.out.mono ?_;rintro e2 w3 ⟨rfl,hb⟩;have BW:=D (B2.out.trans (hb.mono B2.out.size));have T1:=D (Y1.out.on hb);have T2:=D (Y2.out.on hb);have T3:=D (Y3.out.on hb);have TA:=AB.out.on hb;clear x4;clear d0 d1 d2 d3;have a3:=TA.cell 3;have d5:=T2.out.cell 5;simp only [U,O,Q] at a3 d5;obtain⟨fq,hfq⟩:∃ q,(y6 == r4)=q:=⟨_,rfl⟩;obtain⟨rt,hrt⟩:∃ q,(r4 == -1)=q:=⟨_,rfl⟩;have FQ:=D hfq;have RT:=D hrt;clear hb PL TA Y1 Y2 Y3 AB hw2;cases kn
 ·have LQ:=D (show ig b e=(b,au) from by
   rw [<- xE HR.out];unfold Mk;have h0:gD b.dQ e.tree=ah:=by
    rw [ET.out];rcases HI.out with⟨_,h⟩|⟨h,_⟩
    ·exact h
    ·cases h
   rw [h0])
  have Q1:=T1.out;have Q3:=T3.out;obtain⟨x0,x1,x2,x3,x4,x5⟩:=Q1.eZ;obtain⟨z0,z1,z2,z3,z4,z5⟩:=Q3.eZ;obtain⟨zf0,zf1,zf2,zf3,zf4,zf5⟩:=Q3.kL;have zlt:=Q3.lt;have FB:=D (dM Q3 (K L b.me) (J no nn nc) (J ao an ac) (J so sn sc) (J eo en ec) (J oo dY oc));have FL:=D (dG (b:=w.heap.size+1+1) BW.out (by omega) (K L b.me) (J no nn nc) (J ao an ac) (J so sn sc) (J eo en ec) (J oo dY oc));clear Q1 Q3;go_wp2_with fail;clear z0 z1 z2 z3 z4 z5;obtain⟨v0,v1,v2,v3,v4,v5⟩:=FB.out.eZ;refine bodyPost_ret (v:=.tuple #[bn #[K L b.me,J no nn nc,J ao an ac,J so sn sc,J eo en ec,J oo dY oc],aj au]) (by simp [results,aL,go_sem,v0,v1,v2,v3,v4,v5]) rfl ?_;rw [LQ.out];exact⟨⟨(no,nn,nc),(ao,an,ac),(so,sn,sc),(eo,en,ec),(oo,dY,oc),rfl,HH.out.on FL.out,fun h=>h.on FL.out,fun h=>(h.resolve_right (by simp)).on FL.out⟩,FL.out⟩
 ·cases th
  ·cases rt
   ·cases fq
    ·have x1:=T2.out.cell 1;have x0:=T2.out.cell 0;have x2:=T2.out.cell 2;have x3:=T2.out.cell 3;have x4:=T2.out.cell 4;have x6:=T2.out.cell 6;simp only [U,O,Q] at x0 x1 x2 x3 x4 x6;have PE:=D (show fI w3 (J yo yn yc) e.p from (EE.out.2.2.2.2).on BW.out);have CP:=D (Aa (y1,y2,y3,y4,(yo,yn,yc),y6,y7) e.p w3 PE.out (jk OE.out));go_wp2_with fail;refine CP.out.mono ?_;rintro e4 w3b ⟨⟨⟨u1,u2,u3⟩,rfl,ho⟩,hb⟩;clear x0 x1 x2 x3 x4 x6;clear a3 d5;have V2:=T2.out.on hb;obtain⟨x0,x1,x2,x3,x4,x5,x6⟩:=V2.mI;obtain⟨xf0,xf1,YS,YT,QC,YU,xf6⟩:=V2.Yb;have xlt:=V2.lt;have bs:=I8 w3b (w.heap.size+1) (K L y1) (K L y2) (K L y3) (K L y4) (J u1 u2 u3) (K L y6) (aj y7);have E2:=D (tF V2 (K L y1) (K L y2) (K L y3) (K L y4) (J u1 u2 u3) (K L y6) (aj y7));have E1:=D (bs.box (T1.out.on hb) (by omega));have E3:=D (bs.box (T3.out.on hb) (by omega));have EO:=D (bs.own ho V2 (by decide));have EL:=D (oZ (b:=w.heap.size+1) (BW.out.trans (hb.mono BW.out.size)) (by omega) (K L y1) (K L y2) (K L y3) (K L y4) (J u1 u2 u3) (K L y6) (aj y7));have Zo:=D (show w3.heap.size<=(I6 w3b (w.heap.size+1) (K L y1) (K L y2) (K L y3) (K L y4) (J u1 u2 u3) (K L y6) (aj y7)).heap.size by have:=hb.size; simp; omega);have L4:=D (show w.heap.size+1+1<w3.heap.size from T3.out.lt);clear V2 ho hb CP T1 T2 T3 BW bs;go_upto_region 7 with fail;clear x0 x1 x2 x3 x4 x5 x6 xf0 xf1 YS YT QC YU xf6 xlt;unfold I6 at E2 E1 E3 EO EL Zo;generalize (((((((w3b).setCell ⟨w.heap.size+1,0,ah⟩ (K L y1)).setCell ⟨w.heap.size+1,1,ah⟩ (K L y2)).setCell ⟨w.heap.size+1,2,ah⟩ (K L y3)).setCell ⟨w.heap.size+1,3,ah⟩ (K L y4)).setCell ⟨w.heap.size+1,4,ah⟩ (J u1 u2 u3)).setCell ⟨w.heap.size+1,5,ah⟩ (K L y6)).setCell ⟨w.heap.size+1,6,ah⟩ (aj y7)=w4b at *;have x1:=E2.out.cell 1;have x0:=E2.out.cell 0;have x4:=E2.out.cell 4;simp only [U,O,Q] at x0 x1 x4;obtain⟨z0,z1,z2,z3,z4,z5⟩:=E1.out.eZ;have CV:=D (VD b.me (J no nn nc) (J ao an ac) (J so sn sc) (J oo dY oc) (eo,en,ec) les b.ent (y1,y2) (J u1 u2 u3) e.p w4b (ahp.out.on EL.out) (afn.out.mono fun _ _ q=>q.on EL.out) HR.out (by rw [afn.out.len]; have:=HF.out.ent; omega) (Row.dH EO.out) OK.out OE.out);obtain⟨cv,hcv⟩:∃ c,fD b.ent (y1,y2) e.p=c:=⟨_,rfl⟩;rw [hcv] at CV;have CVQ:=D hcv;clear hcv;go_wp2_with fail;refine CV.out.mono ?_;rintro e5 w4c ⟨rfl,hb⟩;clear x0 x1 x4;clear z0 z1 z2 z3 z4 z5
     replace E2:=D (E2.out.on hb)
     replace E1:=D (E1.out.on hb)
     replace E3:=D (E3.out.on hb)
     replace EO:=D (Bk.dI EO.out hb)
     replace Zo:=D (aF Zo.out hb.size)
     replace EL:=D (EL.out.trans (hb.mono EL.out.size))
     clear CV hb;have x6:=E2.out.cell 6;have xf6:=E2.out.fr 6;have xlt:=E2.out.lt;simp only [U,O,Q] at x6;have bs:=dP w4c (w.heap.size+1) 6 (aj (!cv));have T2:=D (show dK (w4c.setCell ⟨w.heap.size+1,6,ah⟩ (aj (!cv))) (w.heap.size+1) #[K L y1,K L y2,K L y3,K L y4,J u1 u2 u3,K L y6,aj (!cv)] 66 by simpa using dW (k:=6) E2.out (aj (!cv)));have T1:=D (bs.box E1.out (by omega));have T3:=D (bs.box E3.out (by omega));have OC:=D (bs.own EO.out E2.out (by decide));have BW:=D (EL.out.setCell (p:=⟨w.heap.size+1,6,ah⟩) (by simp) (aj (!cv)));have S45:=D (show w3.heap.size<=(w4c.setCell ⟨w.heap.size+1,6,ah⟩ (aj (!cv))).heap.size by have:=Zo.out; simp; omega);clear bs E1 E2 E3 EO EL Zo;go_upto_region 8 with fail;clear x6 xf6 xlt;generalize w4c.setCell ⟨w.heap.size+1,6,ah⟩ (aj (!cv))=w5 at *;have LQ:=D (show ig b e=({ b with ent:=gG b.ent k { e with up:=(!cv) } },(!cv)) from by
      rw [<- xE HR.out];unfold Mk;obtain⟨a,h0,h1⟩:∃ a,gD b.dQ e.tree=aA a/\r4=a.par:=by
       rw [ET.out];rcases HI.out with⟨h,_⟩|⟨_,h⟩
       ·cases h
       ·exact h
      rw [h0];simp only;rw [if_neg (by rw [ET.out,ES.out,TH.out]; simp),if_neg ?_,show eT (b.ent.map fB) (e.tree,e.sub)=k by rw [ET.out,ES.out]; exact HK.out,<- h1,RT.out]
      ·rw [ET.out,CVQ.out]
       rfl
      ·rintro⟨g,_⟩;rw [EF.out,<- h1] at g;have:=FQ.out;simp at this;exact this g)
     have Q1:=T1.out;obtain⟨x0,x1,x2,x3,x4,x5⟩:=Q1.eZ;clear Q1;go_wp2_with fail;refine (uK b (no,nn,nc) (ao,an,ac) (so,sn,sc) (eo,en,ec) (oo,dY,oc) w w5 BW.out HH.out HF.out HP.out).mono ?_;rintro e6 w6 ⟨⟨⟨p1,q1,s1⟩,⟨p2,q2,s2⟩,⟨p3,q3,s3⟩,⟨p4,q4,s4⟩,⟨p5,q5,s5⟩,rfl,cp⟩,hb6⟩;clear x0 x1 x2 x3 x4 x5;have V1:=T1.out.on hb6;have V2:=D (T2.out.on hb6);have V3:=D (T3.out.on hb6);obtain⟨x0,x1,x2,x3,x4,x5⟩:=V1.eZ;obtain⟨xf0,xf1,YS,YT,QC,YU⟩:=V1.kL;have xlt:=V1.lt;have bs:=eY w6 w.heap.size (K L b.me) (J p1 q1 s1) (J p2 q2 s2) (J p3 q3 s3) (J p4 q4 s4) (J p5 q5 s5);have FB:=D (dM V1 (K L b.me) (J p1 q1 s1) (J p2 q2 s2) (J p3 q3 s3) (J p4 q4 s4) (J p5 q5 s5));have FC:=D (Sb.Cp.less (cp.but bs V1) (show w3.heap.size<=w5.heap.size from S45.out));have FO:=D (bs.own (Bk.dI OC.out hb6) V1 (by decide));have FL:=D (dG (b:=w.heap.size) (BW.out.trans (hb6.mono BW.out.size)) (aQ _) (K L b.me) (J p1 q1 s1) (J p2 q2 s2) (J p3 q3 s3) (J p4 q4 s4) (J p5 q5 s5));have F2:=D (bs.box V2.out (by omega));have F3:=D (bs.box V3.out (by omega));have SZ:=D (show w3.heap.size<=(gH w6 w.heap.size (K L b.me) (J p1 q1 s1) (J p2 q2 s2) (J p3 q3 s3) (J p4 q4 s4) (J p5 q5 s5)).heap.size by have:=hb6.size; have:=S45.out; simp; omega);clear V1 V2 V3 cp hb6 bs T1 T2 T3 OC BW;go_upto_region 9 with fail;clear x0 x1 x2 x3 x4 x5 xf0 xf1 YS YT QC YU xlt;unfold gH at FB FC FL F2 F3 SZ FO;generalize ((((((w6).setCell ⟨w.heap.size,0,ah⟩ (K L b.me)).setCell ⟨w.heap.size,1,ah⟩ (J p1 q1 s1)).setCell ⟨w.heap.size,2,ah⟩ (J p2 q2 s2)).setCell ⟨w.heap.size,3,ah⟩ (J p3 q3 s3)).setCell ⟨w.heap.size,4,ah⟩ (J p4 q4 s4)).setCell ⟨w.heap.size,5,ah⟩ (J p5 q5 s5)=w7 at *;obtain⟨le,hle1,hle2⟩:=FC.out.ent;have xS:=D hle1;have HL2:=D hle2;clear hle1 hle2;have nb:=fM w7 (ay #[K L y1,K L y2,K L y3,K L y4,J u1 u2 u3,K L y6,aj (!cv)] 66);have bx:=dJ w7 #[K L y1,K L y2,K L y3,K L y4,J u1 u2 u3,K L y6,aj (!cv)] 66;have IN:=D (yZ w3.heap.size (J p4 q4 s4) le k (y1,y2,y3,y4,(u1,u2,u3),y6,(!cv)) w7.heap.size _ (Bk.dI xS.out nb) bx (fun e=>by
      obtain⟨d,hd⟩:=jK xS.out _ e;have:=hd.lt;omega) (by rw [HL2.out.len]; exact KL.out) (by rw [HL2.out.len]; exact HF.out.ent) (aF SZ.out nb.size))
     have FB2:=D (FB.out.on nb);have F22:=D (F2.out.on nb);have F32:=D (F3.out.on nb);have FO2:=D (Bk.dI FO.out nb);have FC2:=D (FC.out.grow nb);have FL2:=D (FL.out.trans (nb.mono FL.out.size));have HA2:=D (HL2.out.mono fun _ _ q=>q.grow nb);have Gu:=D (jK (Bk.dI xS.out nb));have x4:=FB.out.cell 4;simp only [U,O,Q] at x4;obtain⟨d0,d1,d2,d3,d4,d5,d6⟩:=F2.out.mI;clear nb bx;go_wp2_with fail;refine IN.out.mono ?_;rintro e8 w8 ⟨v8,rfl,hown,hbel,hoth⟩;clear x4;clear d0 d1 d2 d3 d4 d5 d6;generalize w7.alloc (ay #[K L y1,K L y2,K L y3,K L y4,J u1 u2 u3,K L y6,aj (!cv)] 66)=w7a at *;obtain⟨t1,t2,hv8⟩:=(Row.dH hown).len;subst hv8;generalize (le.take k++(y1,y2,y3,y4,(u1,u2,u3),y6,(!cv))::le.drop k).length=tn at *;have hoff:Off (J p4 q4 s4).ownBlock w7a w8:=⟨hoth,hbel.size⟩;have CP:=D (FC2.out.acQ (ev':=(t1,tn,t2)) (el:=gG b.ent k { e with up:=(!cv) }) hoff ⟨gG le k (y1,y2,y3,y4,(u1,u2,u3),y6,(!cv)),by unfold gG; rw [aU]; exact hown,Bf (HA2.out.mono fun _ _ q=>q.off hoff Gu.out (by decide)) k ⟨EE.out.1,EE.out.2.1,EE.out.2.2.1,rfl,Or.inr (hoff.own FO2.out Gu.out (by decide))⟩⟩);have G1:=hoff.box FB2.out Gu.out (by decide);have G3:=hoff.box F32.out Gu.out (by decide);have G2:=D (show dK w8 (w.heap.size+1) #[K L y1,K L y2,K L y3,K L y4,J u1 u2 u3,K L y6,aj (!cv)] 66 from (hoth _ F22.out.lt (fun e=>by
      have:=Oz xS.out _ e.symm;have:=L4.out;omega)).trans F22.out)
     have NC:=D (show dK (w8.setCell ⟨w.heap.size,4,ah⟩ (J t1 tn t2)) w.heap.size #[K L b.me,J p1 q1 s1,J p2 q2 s2,J p3 q3 s3,J t1 tn t2,J p5 q5 s5] 28 by simpa using dW (k:=4) G1 (J t1 tn t2));have MC:=D (CP.out.but (dP w8 w.heap.size 4 (J t1 tn t2)) G1);have M3:=D ((dP w8 w.heap.size 4 (J t1 tn t2)).box G3 (by omega));have M2:=D ((dP w8 w.heap.size 4 (J t1 tn t2)).box G2.out (by omega));have ML:=D (show Below w.heap.size w (w8.setCell ⟨w.heap.size,4,ah⟩ (J t1 tn t2)) from (FL2.out.trans (hbel.mono (by have:=L4.out; omega))).setCell (p:=⟨w.heap.size,4,ah⟩) (aQ _) _);have x4:=G1.cell 4;have QC:=G1.fr 4;have xlt:=G1.lt;simp only [U,O,Q] at x4;clear hown hbel hoth hoff G1 G2 G3 CP FB FB2 FC FC2 FO FO2 F2 F22 F3 F32 FL FL2 xS HL2 HA2 Gu IN SZ;go_upto_region 10 with fail;clear x4 QC xlt;generalize w8.setCell ⟨w.heap.size,4,ah⟩ (J t1 tn t2)=w9 at *;have Q1:=NC.out;have Q2:=M2.out;have Q3:=M3.out;obtain⟨x0,x1,x2,x3,x4,x5⟩:=Q1.eZ;have d6:=Q2.cell 6;simp only [U,O,Q] at d6;obtain⟨z0,z1,z2,z3,z4,z5⟩:=Q3.eZ;obtain⟨zf0,zf1,zf2,zf3,zf4,zf5⟩:=Q3.kL;have zlt:=Q3.lt;have FB:=D ((dM Q3 (K L b.me) (J p1 q1 s1) (J p2 q2 s2) (J p3 q3 s3) (J t1 tn t2) (J p5 q5 s5)).on (aP _ _).drew);have FC:=D ((MC.out.but (eY w9 (w.heap.size+1+1) (K L b.me) (J p1 q1 s1) (J p2 q2 s2) (J p3 q3 s3) (J t1 tn t2) (J p5 q5 s5)) Q3).grow (aP _ _).drew);have FL:=D (dG (b:=w.heap.size+1+1) ML.out (by omega) (K L b.me) (J p1 q1 s1) (J p2 q2 s2) (J p3 q3 s3) (J t1 tn t2) (J p5 q5 s5)).drew;clear Q1 Q2 Q3 NC MC M2 M3 ML;go_wp2
     go_region
     all_goals simp only [Exit.then]
     all_goals apply_assumption
     all_goals
      clear x0 x1 x2 x3 x4 x5;clear z0 z1 z2 z3 z4 z5 zf0 zf1 zf2 zf3 zf4 zf5 zlt;clear d6;unfold gH at FB FC FL;generalize (((((((w9).setCell ⟨w.heap.size+1+1,0,ah⟩ (K L b.me)).setCell ⟨w.heap.size+1+1,1,ah⟩ (J p1 q1 s1)).setCell ⟨w.heap.size+1+1,2,ah⟩ (J p2 q2 s2)).setCell ⟨w.heap.size+1+1,3,ah⟩ (J p3 q3 s3)).setCell ⟨w.heap.size+1+1,4,ah⟩ (J t1 tn t2)).setCell ⟨w.heap.size+1+1,5,ah⟩ (J p5 q5 s5)).drew=wz at *;obtain⟨v0,v1,v2,v3,v4,v5⟩:=FB.out.eZ;go_wp2;refine bodyPost_ret (v:=.tuple #[bn #[K L b.me,J p1 q1 s1,J p2 q2 s2,J p3 q3 s3,J t1 tn t2,J p5 q5 s5],aj (!cv)]) (by simp [results,aL,go_sem,v0,v1,v2,v3,v4,v5]) rfl ?_;rw [LQ.out];exact⟨⟨(p1,q1,s1),(p2,q2,s2),(p3,q3,s3),(t1,tn,t2),(p5,q5,s5),rfl,FC.out.vbr,fun _=>⟨_,FC.out.near⟩,fun _=>⟨_,_,FC.out⟩⟩,FL.out⟩
    ·have LQ:=D (show ig b e=(b,au) from by
      rw [<- xE HR.out];unfold Mk;obtain⟨a,h0,h1⟩:∃ a,gD b.dQ e.tree=aA a/\r4=a.par:=by
       rw [ET.out];rcases HI.out with⟨h,_⟩|⟨_,h⟩
       ·cases h
       ·exact h
      rw [h0];simp only;rw [if_neg (by rw [ET.out,ES.out,TH.out]; simp),if_pos ?_];refine⟨?_,?_⟩
      ·rw [EF.out,<- h1];have:=FQ.out;simpa using this
      ·rw [<- h1];have:=RT.out;simpa using this)
     have Q1:=T1.out;have Q3:=T3.out;obtain⟨x0,x1,x2,x3,x4,x5⟩:=Q1.eZ;obtain⟨z0,z1,z2,z3,z4,z5⟩:=Q3.eZ;obtain⟨zf0,zf1,zf2,zf3,zf4,zf5⟩:=Q3.kL;have zlt:=Q3.lt;have FB:=D (dM Q3 (K L b.me) (J no nn nc) (J ao an ac) (J so sn sc) (J eo en ec) (J oo dY oc));have FL:=D (dG (b:=w.heap.size+1+1) BW.out (by omega) (K L b.me) (J no nn nc) (J ao an ac) (J so sn sc) (J eo en ec) (J oo dY oc));clear Q1 Q3;go_wp2_with fail;clear z0 z1 z2 z3 z4 z5;obtain⟨v0,v1,v2,v3,v4,v5⟩:=FB.out.eZ;refine bodyPost_ret (v:=.tuple #[bn #[K L b.me,J no nn nc,J ao an ac,J so sn sc,J eo en ec,J oo dY oc],aj au]) (by simp [results,aL,go_sem,v0,v1,v2,v3,v4,v5]) rfl ?_;rw [LQ.out];exact⟨⟨(no,nn,nc),(ao,an,ac),(so,sn,sc),(eo,en,ec),(oo,dY,oc),rfl,HH.out.on FL.out,fun h=>h.on FL.out,fun h=>(h.resolve_right (by simp)).on FL.out⟩,FL.out⟩
   ·cases fq
    all_goals
     have x1:=T2.out.cell 1;have x0:=T2.out.cell 0;have x2:=T2.out.cell 2;have x3:=T2.out.cell 3;have x4:=T2.out.cell 4;have x6:=T2.out.cell 6;simp only [U,O,Q] at x0 x1 x2 x3 x4 x6;have PE:=D (show fI w3 (J yo yn yc) e.p from (EE.out.2.2.2.2).on BW.out);have CP:=D (Aa (y1,y2,y3,y4,(yo,yn,yc),y6,y7) e.p w3 PE.out (jk OE.out));go_wp2_with fail;refine CP.out.mono ?_;rintro e4 w3b ⟨⟨⟨u1,u2,u3⟩,rfl,ho⟩,hb⟩;clear x0 x1 x2 x3 x4 x6;clear a3 d5;have V2:=T2.out.on hb;obtain⟨x0,x1,x2,x3,x4,x5,x6⟩:=V2.mI;obtain⟨xf0,xf1,YS,YT,QC,YU,xf6⟩:=V2.Yb;have xlt:=V2.lt;have bs:=I8 w3b (w.heap.size+1) (K L y1) (K L y2) (K L y3) (K L y4) (J u1 u2 u3) (K L y6) (aj y7);have E2:=D (tF V2 (K L y1) (K L y2) (K L y3) (K L y4) (J u1 u2 u3) (K L y6) (aj y7));have E1:=D (bs.box (T1.out.on hb) (by omega));have E3:=D (bs.box (T3.out.on hb) (by omega));have EO:=D (bs.own ho V2 (by decide));have EL:=D (oZ (b:=w.heap.size+1) (BW.out.trans (hb.mono BW.out.size)) (by omega) (K L y1) (K L y2) (K L y3) (K L y4) (J u1 u2 u3) (K L y6) (aj y7));have Zo:=D (show w3.heap.size<=(I6 w3b (w.heap.size+1) (K L y1) (K L y2) (K L y3) (K L y4) (J u1 u2 u3) (K L y6) (aj y7)).heap.size by have:=hb.size; simp; omega);have L4:=D (show w.heap.size+1+1<w3.heap.size from T3.out.lt);clear V2 ho hb CP T1 T2 T3 BW bs;go_upto_region 7 with fail;clear x0 x1 x2 x3 x4 x5 x6 xf0 xf1 YS YT QC YU xf6 xlt;unfold I6 at E2 E1 E3 EO EL Zo;generalize (((((((w3b).setCell ⟨w.heap.size+1,0,ah⟩ (K L y1)).setCell ⟨w.heap.size+1,1,ah⟩ (K L y2)).setCell ⟨w.heap.size+1,2,ah⟩ (K L y3)).setCell ⟨w.heap.size+1,3,ah⟩ (K L y4)).setCell ⟨w.heap.size+1,4,ah⟩ (J u1 u2 u3)).setCell ⟨w.heap.size+1,5,ah⟩ (K L y6)).setCell ⟨w.heap.size+1,6,ah⟩ (aj y7)=w4b at *;have x6:=E2.out.cell 6;have xf6:=E2.out.fr 6;have xlt:=E2.out.lt;simp only [U,O,Q] at x6;have bs:=dP w4b (w.heap.size+1) 6 (aj au);have T2:=D (show dK (w4b.setCell ⟨w.heap.size+1,6,ah⟩ (aj au)) (w.heap.size+1) #[K L y1,K L y2,K L y3,K L y4,J u1 u2 u3,K L y6,aj au] 66 by simpa using dW (k:=6) E2.out (aj au));have T1:=D (bs.box E1.out (by omega));have T3:=D (bs.box E3.out (by omega));have OC:=D (bs.own EO.out E2.out (by decide));have BW:=D (EL.out.setCell (p:=⟨w.heap.size+1,6,ah⟩) (by simp) (aj au));have S45:=D (show w3.heap.size<=(w4b.setCell ⟨w.heap.size+1,6,ah⟩ (aj au)).heap.size by have:=Zo.out; simp; omega);clear bs E1 E2 E3 EO EL Zo;go_upto_region 8 with fail;clear x6 xf6 xlt;generalize w4b.setCell ⟨w.heap.size+1,6,ah⟩ (aj au)=w5 at *;have LQ:=D (show ig b e=({ b with ent:=gG b.ent k { e with up:=au } },au) from by
      rw [<- xE HR.out];unfold Mk;obtain⟨a,h0,h1⟩:∃ a,gD b.dQ e.tree=aA a/\r4=a.par:=by
       rw [ET.out];rcases HI.out with⟨h,_⟩|⟨_,h⟩
       ·cases h
       ·exact h
      rw [h0];simp only;rw [if_neg (by rw [ET.out,ES.out,TH.out]; simp),if_neg ?_,show eT (b.ent.map fB) (e.tree,e.sub)=k by rw [ET.out,ES.out]; exact HK.out,<- h1,RT.out]
      ·rfl
      ·rintro⟨_,g⟩;rw [<- h1] at g;have:=RT.out;simp at this;exact g this)
     have Q1:=T1.out;obtain⟨x0,x1,x2,x3,x4,x5⟩:=Q1.eZ;clear Q1;go_wp2_with fail;refine (uK b (no,nn,nc) (ao,an,ac) (so,sn,sc) (eo,en,ec) (oo,dY,oc) w w5 BW.out HH.out HF.out HP.out).mono ?_;rintro e6 w6 ⟨⟨⟨p1,q1,s1⟩,⟨p2,q2,s2⟩,⟨p3,q3,s3⟩,⟨p4,q4,s4⟩,⟨p5,q5,s5⟩,rfl,cp⟩,hb6⟩;clear x0 x1 x2 x3 x4 x5;have V1:=T1.out.on hb6;have V2:=D (T2.out.on hb6);have V3:=D (T3.out.on hb6);obtain⟨x0,x1,x2,x3,x4,x5⟩:=V1.eZ;obtain⟨xf0,xf1,YS,YT,QC,YU⟩:=V1.kL;have xlt:=V1.lt;have bs:=eY w6 w.heap.size (K L b.me) (J p1 q1 s1) (J p2 q2 s2) (J p3 q3 s3) (J p4 q4 s4) (J p5 q5 s5);have FB:=D (dM V1 (K L b.me) (J p1 q1 s1) (J p2 q2 s2) (J p3 q3 s3) (J p4 q4 s4) (J p5 q5 s5));have FC:=D (Sb.Cp.less (cp.but bs V1) (show w3.heap.size<=w5.heap.size from S45.out));have FO:=D (bs.own (Bk.dI OC.out hb6) V1 (by decide));have FL:=D (dG (b:=w.heap.size) (BW.out.trans (hb6.mono BW.out.size)) (aQ _) (K L b.me) (J p1 q1 s1) (J p2 q2 s2) (J p3 q3 s3) (J p4 q4 s4) (J p5 q5 s5));have F2:=D (bs.box V2.out (by omega));have F3:=D (bs.box V3.out (by omega));have SZ:=D (show w3.heap.size<=(gH w6 w.heap.size (K L b.me) (J p1 q1 s1) (J p2 q2 s2) (J p3 q3 s3) (J p4 q4 s4) (J p5 q5 s5)).heap.size by have:=hb6.size; have:=S45.out; simp; omega);clear V1 V2 V3 cp hb6 bs T1 T2 T3 OC BW;go_upto_region 9 with fail;clear x0 x1 x2 x3 x4 x5 xf0 xf1 YS YT QC YU xlt;unfold gH at FB FC FL F2 F3 SZ FO;generalize ((((((w6).setCell ⟨w.heap.size,0,ah⟩ (K L b.me)).setCell ⟨w.heap.size,1,ah⟩ (J p1 q1 s1)).setCell ⟨w.heap.size,2,ah⟩ (J p2 q2 s2)).setCell ⟨w.heap.size,3,ah⟩ (J p3 q3 s3)).setCell ⟨w.heap.size,4,ah⟩ (J p4 q4 s4)).setCell ⟨w.heap.size,5,ah⟩ (J p5 q5 s5)=w7 at *;obtain⟨le,hle1,hle2⟩:=FC.out.ent;have xS:=D hle1;have HL2:=D hle2;clear hle1 hle2;have nb:=fM w7 (ay #[K L y1,K L y2,K L y3,K L y4,J u1 u2 u3,K L y6,aj au] 66);have bx:=dJ w7 #[K L y1,K L y2,K L y3,K L y4,J u1 u2 u3,K L y6,aj au] 66;have IN:=D (yZ w3.heap.size (J p4 q4 s4) le k (y1,y2,y3,y4,(u1,u2,u3),y6,au) w7.heap.size _ (Bk.dI xS.out nb) bx (fun e=>by
      obtain⟨d,hd⟩:=jK xS.out _ e;have:=hd.lt;omega) (by rw [HL2.out.len]; exact KL.out) (by rw [HL2.out.len]; exact HF.out.ent) (aF SZ.out nb.size))
     have FB2:=D (FB.out.on nb);have F22:=D (F2.out.on nb);have F32:=D (F3.out.on nb);have FO2:=D (Bk.dI FO.out nb);have FC2:=D (FC.out.grow nb);have FL2:=D (FL.out.trans (nb.mono FL.out.size));have HA2:=D (HL2.out.mono fun _ _ q=>q.grow nb);have Gu:=D (jK (Bk.dI xS.out nb));have x4:=FB.out.cell 4;simp only [U,O,Q] at x4;obtain⟨d0,d1,d2,d3,d4,d5,d6⟩:=F2.out.mI;clear nb bx;go_wp2_with fail;refine IN.out.mono ?_;rintro e8 w8 ⟨v8,rfl,hown,hbel,hoth⟩;clear x4;clear d0 d1 d2 d3 d4 d5 d6;generalize w7.alloc (ay #[K L y1,K L y2,K L y3,K L y4,J u1 u2 u3,K L y6,aj au] 66)=w7a at *;obtain⟨t1,t2,hv8⟩:=(Row.dH hown).len;subst hv8;generalize (le.take k++(y1,y2,y3,y4,(u1,u2,u3),y6,au)::le.drop k).length=tn at *;have hoff:Off (J p4 q4 s4).ownBlock w7a w8:=⟨hoth,hbel.size⟩;have CP:=D (FC2.out.acQ (ev':=(t1,tn,t2)) (el:=gG b.ent k { e with up:=au }) hoff ⟨gG le k (y1,y2,y3,y4,(u1,u2,u3),y6,au),by unfold gG; rw [aU]; exact hown,Bf (HA2.out.mono fun _ _ q=>q.off hoff Gu.out (by decide)) k ⟨EE.out.1,EE.out.2.1,EE.out.2.2.1,rfl,Or.inr (hoff.own FO2.out Gu.out (by decide))⟩⟩);have G1:=hoff.box FB2.out Gu.out (by decide);have G3:=hoff.box F32.out Gu.out (by decide);have G2:=D (show dK w8 (w.heap.size+1) #[K L y1,K L y2,K L y3,K L y4,J u1 u2 u3,K L y6,aj au] 66 from (hoth _ F22.out.lt (fun e=>by
      have:=Oz xS.out _ e.symm;have:=L4.out;omega)).trans F22.out)
     have NC:=D (show dK (w8.setCell ⟨w.heap.size,4,ah⟩ (J t1 tn t2)) w.heap.size #[K L b.me,J p1 q1 s1,J p2 q2 s2,J p3 q3 s3,J t1 tn t2,J p5 q5 s5] 28 by simpa using dW (k:=4) G1 (J t1 tn t2));have MC:=D (CP.out.but (dP w8 w.heap.size 4 (J t1 tn t2)) G1);have M3:=D ((dP w8 w.heap.size 4 (J t1 tn t2)).box G3 (by omega));have M2:=D ((dP w8 w.heap.size 4 (J t1 tn t2)).box G2.out (by omega));have ML:=D (show Below w.heap.size w (w8.setCell ⟨w.heap.size,4,ah⟩ (J t1 tn t2)) from (FL2.out.trans (hbel.mono (by have:=L4.out; omega))).setCell (p:=⟨w.heap.size,4,ah⟩) (aQ _) _);have x4:=G1.cell 4;have QC:=G1.fr 4;have xlt:=G1.lt;simp only [U,O,Q] at x4;clear hown hbel hoth hoff G1 G2 G3 CP FB FB2 FC FC2 FO FO2 F2 F22 F3 F32 FL FL2 xS HL2 HA2 Gu IN SZ;go_upto_region 10 with fail;clear x4 QC xlt;generalize w8.setCell ⟨w.heap.size,4,ah⟩ (J t1 tn t2)=w9 at *;have Q1:=NC.out;have Q2:=M2.out;have Q3:=M3.out;obtain⟨x0,x1,x2,x3,x4,x5⟩:=Q1.eZ;have d6:=Q2.cell 6;simp only [U,O,Q] at d6;obtain⟨z0,z1,z2,z3,z4,z5⟩:=Q3.eZ;obtain⟨zf0,zf1,zf2,zf3,zf4,zf5⟩:=Q3.kL;have zlt:=Q3.lt;have FB:=D ((dM Q3 (K L b.me) (J p1 q1 s1) (J p2 q2 s2) (J p3 q3 s3) (J t1 tn t2) (J p5 q5 s5)).on (aP _ _).drew);have FC:=D ((MC.out.but (eY w9 (w.heap.size+1+1) (K L b.me) (J p1 q1 s1) (J p2 q2 s2) (J p3 q3 s3) (J t1 tn t2) (J p5 q5 s5)) Q3).grow (aP _ _).drew);have FL:=D (dG (b:=w.heap.size+1+1) ML.out (by omega) (K L b.me) (J p1 q1 s1) (J p2 q2 s2) (J p3 q3 s3) (J t1 tn t2) (J p5 q5 s5)).drew;clear Q1 Q2 Q3 NC MC M2 M3 ML;go_wp2
     go_region
     all_goals simp only [Exit.then]
     all_goals apply_assumption
     all_goals
      clear x0 x1 x2 x3 x4 x5;clear z0 z1 z2 z3 z4 z5 zf0 zf1 zf2 zf3 zf4 zf5 zlt;clear d6;unfold gH at FB FC FL;generalize (((((((w9).setCell ⟨w.heap.size+1+1,0,ah⟩ (K L b.me)).setCell ⟨w.heap.size+1+1,1,ah⟩ (J p1 q1 s1)).setCell ⟨w.heap.size+1+1,2,ah⟩ (J p2 q2 s2)).setCell ⟨w.heap.size+1+1,3,ah⟩ (J p3 q3 s3)).setCell ⟨w.heap.size+1+1,4,ah⟩ (J t1 tn t2)).setCell ⟨w.heap.size+1+1,5,ah⟩ (J p5 q5 s5)).drew=wz at *;obtain⟨v0,v1,v2,v3,v4,v5⟩:=FB.out.eZ;go_wp2;refine bodyPost_ret (v:=.tuple #[bn #[K L b.me,J p1 q1 s1,J p2 q2 s2,J p3 q3 s3,J t1 tn t2,J p5 q5 s5],aj au]) (by simp [results,aL,go_sem,v0,v1,v2,v3,v4,v5]) rfl ?_;rw [LQ.out];exact⟨⟨(p1,q1,s1),(p2,q2,s2),(p3,q3,s3),(t1,tn,t2),(p5,q5,s5),rfl,FC.out.vbr,fun _=>⟨_,FC.out.near⟩,fun _=>⟨_,_,FC.out⟩⟩,FL.out⟩
  ·have LQ:=D (show ig b e=(b,au) from by
    rw [<- xE HR.out];unfold Mk;obtain⟨a,h0,h1⟩:∃ a,gD b.dQ e.tree=aA a/\r4=a.par:=by
     rw [ET.out];rcases HI.out with⟨h,_⟩|⟨_,h⟩
     ·cases h
     ·exact h
    rw [h0];simp only;rw [if_pos (by rw [ET.out,ES.out,TH.out])])
   have Q1:=T1.out;have Q3:=T3.out;obtain⟨x0,x1,x2,x3,x4,x5⟩:=Q1.eZ;obtain⟨z0,z1,z2,z3,z4,z5⟩:=Q3.eZ;obtain⟨zf0,zf1,zf2,zf3,zf4,zf5⟩:=Q3.kL;have zlt:=Q3.lt;have FB:=D (dM Q3 (K L b.me) (J no nn nc) (J ao an ac) (J so sn sc) (J eo en ec) (J oo dY oc));have FL:=D (dG (b:=w.heap.size+1+1) BW.out (by omega) (K L b.me) (J no nn nc) (J ao an ac) (J so sn sc) (J eo en ec) (J oo dY oc));clear Q1 Q3;go_wp2_with fail;clear z0 z1 z2 z3 z4 z5;obtain⟨v0,v1,v2,v3,v4,v5⟩:=FB.out.eZ;refine bodyPost_ret (v:=.tuple #[bn #[K L b.me,J no nn nc,J ao an ac,J so sn sc,J eo en ec,J oo dY oc],aj au]) (by simp [results,aL,go_sem,v0,v1,v2,v3,v4,v5]) rfl ?_;rw [LQ.out];exact⟨⟨(no,nn,nc),(ao,an,ac),(so,sn,sc),(eo,en,ec),(oo,dY,oc),rfl,HH.out.on FL.out,fun h=>h.on FL.out,fun h=>(h.resolve_right (by simp)).on FL.out⟩,FL.out⟩
end Sb
end Go.Proofs.YtmklifheakemeaaGreat
