/-
  Rows of messages to . Conditions as told.
-/
import Derived.Test.YtkcfgbddlpomgaaGreatLQ011
import Derived.Test.YtkcfgbddlpomgaaGreatLQ014
import Derived.Test.YtkcfgbddlpomgaaGreatLQ015
import Derived.Test.YtkcfgbddlpomgaaGreatLQ013
set_option maxRecDepth 100000
set_option maxHeartbeats 64000000
open _root_.Bool renaming false->X,true->aD,and_eq_true->bG,eq_iff_iff->bH
open _root_.Go renaming cell_regrown->Z,bodyPost_ret->au,below_regrown->aC,World->aQ,Value->aV,redrawn->aY,Calls->bQ,Addr->cB
open Go.Addr renaming add->aO
open Go.Calls renaming regrown_of->bF
open Go.Ending renaming returned->aT
open Go.IntKind renaming i64->L
open Go.IntWalk renaming i64_in->aR
open Go.Lib renaming hid->D
open Go.Obj renaming cells->ah
open Go.Proofs.Tryz renaming prog->ay,results57->aH,results93->bg
open Go.Proofs.YtkcfgbddlpomgaaGreat.Rw.Row renaming dw->aN
open Go.RowKit.Below renaming heap_setCell->O,refl->aI
open Go.Value renaming slice->J,int->K,bool->Y,agg->aX,pointer->aZ
open _root_.List renaming getElem?_eq_getElem->V,getElem?_cons_zero->aA,getElem?_cons_succ->aB,getElem?_toArray->aF,mem_of_getElem?->aG,getElem?_eq_some_iff->aK,length_map->aL,getElem?_map->aS,mem_append->aW,set_cons_succ->bf,setIfInBounds_toArray->bn,mem_or_eq_of_mem_set->bC,mem_of_mem_take->bI,mem_of_mem_drop->bJ,getElem_of_mem->bK,takeWhile_cons->bL,mem_singleton->bN,set_cons_zero->bO,find?_eq_none->bP,any_eq_false->bR,length_take->bS,any_eq_true->bU,mem_cons->bV,map_cons->bW,range->bZ
open _root_.Nat renaming le_refl->aJ,le_trans->aM,lt_or_ge->aP,zero_le->bD,le_succ->bY
open _root_.Option renaming none->U,some->aj
open Option.some renaming inj->ak,injEq->cu
open _root_.Or renaming inr->aU,inl->bM
namespace Go.Proofs.YtkcfgbddlpomgaaGreat
namespace Bk
open Go.RowKit Go.Sort Rw YtkcfgbddlpomgaaGreat.Nm Pr
abbrev mU:=Int×Int×Int×Int×Int×Int×Sl×Sl
abbrev jP (x:mU):List aV:=[K L x.1,K L x.2.1,K L x.2.2.1,K L x.2.2.2.1,K L x.2.2.2.2.1,K L x.2.2.2.2.2.1,dP x.2.2.2.2.2.2.1,dP x.2.2.2.2.2.2.2]
abbrev yS (x:mU):aV:=aX #[K L x.1,K L x.2.1,K L x.2.2.1,K L x.2.2.2.1,K L x.2.2.2.2.1,K L x.2.2.2.2.2.1,dP x.2.2.2.2.2.2.1,dP x.2.2.2.2.2.2.2]
def EU:Ek mU:=⟨58,44,8,96,aX #[K L 0,K L 0,K L 0,K L 0,K L 0,K L 0,J U 0 0,J U 0 0],yS,jP⟩
theorem acu:(Tryz.prog.info? 58).map (fun i=>(i.zero,i.size,i.bytes))=aj (aj (aX #[K L 0,K L 0,K L 0,K L 0,K L 0,K L 0,J U 0 0,J U 0 0]),8,96):=by kernel_rfl
theorem acv (w:aQ) (p:cB) (x:mU) (h:∀ j u,(jP x)[j]?=aj u->w.cell? (p.add j)=aj u):(Instr.loadAt 58 (aZ (aj p))).run ay w=.ok (yS x) w:=by
 have h0:=h 0 _ rfl;have h1:=h 1 _ rfl;have h2:=h 2 _ rfl;have h3:=h 3 _ rfl;have h4:=h 4 _ rfl;have h5:=h 5 _ rfl;have h6:=h 6 _ rfl;have h7:=h 7 _ rfl;simp [aO] at h0 h1 h2 h3 h4 h5 h6 h7;simp [go_sem,h0,h1,h2,h3,h4,h5,h6,h7]
theorem FR:EU.Ok where
 hu:=Tryz.underlying44
 info:=by
  have h:=acu;cases hi:Tryz.prog.info? 58 with
  | none=>rw [hi] at h; cases h
  | some i =>
   rw [hi] at h;simp only [Option.map_some,cu,Prod.mk.injEq] at h;exact⟨i,hi,h.1,h.2.1,h.2.2⟩
 zs:=rfl
 len:=fun _=>rfl
 one:=fun x u hu=>by
  simp only [EU,jP,bV,List.not_mem_nil,or_false] at hu;rcases hu with rfl|rfl|rfl|rfl|rfl|rfl|rfl|rfl <;> rfl
 pos:=by decide
 few:=by decide
 load:=fun w p x h=>acv w p x h
abbrev DN (W:aQ) (v:aV) (l:List mU):Prop:=Row EU W v l
abbrev iZ (W:aQ) (B:Nat) (v:aV) (l:List mU):Prop:=Own EU W B v l
theorem elU {W:aQ} {v:aV} {l:List mU} {ao:Option cB} {n c k:Nat} {x:mU} (h:DN W v l) (hv:v=J ao n c) (hn:l.length=n) (hk:l[k]?=aj x) :
  ∃ p:cB,(∀ w,(Instr.indexAt 44 (J ao n c) (K L k)).run ay w=.ok (aZ (aj p)) w)/\∀ w,Below W.heap.size W w->w.cell? p=aj (K L x.1)/\w.cell? ⟨p.block,p.off+1,U⟩=aj (K L x.2.1)/\w.cell? ⟨p.block,p.off+2,U⟩=aj (K L x.2.2.1)/\w.cell? ⟨p.block,p.off+3,U⟩=aj (K L x.2.2.2.1)/\w.cell? ⟨p.block,p.off+4,U⟩=aj (K L x.2.2.2.2.1)/\w.cell? ⟨p.block,p.off+5,U⟩=aj (K L x.2.2.2.2.2.1)/\w.cell? ⟨p.block,p.off+6,U⟩=aj (dP x.2.2.2.2.2.2.1)/\w.cell? ⟨p.block,p.off+7,U⟩=aj (dP x.2.2.2.2.2.2.2):=by
 obtain⟨p,h1,_,h2⟩:=kX FR h hv hn hk;exact⟨p,h1,fun w hw=>⟨by simpa [aO] using h2 w hw 0 _ rfl,by simpa [aO] using h2 w hw 1 _ rfl,by simpa [aO] using h2 w hw 2 _ rfl,by simpa [aO] using h2 w hw 3 _ rfl,by simpa [aO] using h2 w hw 4 _ rfl,by simpa [aO] using h2 w hw 5 _ rfl,by simpa [aO] using h2 w hw 6 _ rfl,by simpa [aO] using h2 w hw 7 _ rfl⟩⟩
def lq (near:List Int) (but:Int) (f:Int->mU):List mU:=(near.filter fun n=>n != but).map f
theorem yT (me but k tc ts ic is:Int) (nv:Sl) (av sv ev ov:aV) (pv lv:Sl) (l:List Int) (w:aQ) (hs:qH w (dP nv) l) (hlen:l.length<=900) :
  bQ ay 61 #[aX #[K L me,dP nv,av,sv,ev,ov],K L but,aX #[K L k,K L tc,K L ts,K L ic,K L is,dP pv,dP lv]] w fun e w'=>(∃ v:Sl,e=aT (dP v)/\iZ w' w.heap.size (dP v) (lq l but fun n=>(n,k,tc,ts,ic,is,pv,lv)))/\Below w.heap.size w w':=by
 obtain⟨no,nn,nc⟩:=nv;obtain⟨po,pn,pc⟩:=pv;obtain⟨Jq,ln,lc⟩:=lv;obtain⟨q1,q2,hq⟩:=hs.len;obtain⟨rfl,hnn,rfl⟩:no=q1/\nn=l.length/\nc=q2:=by
  have h:J no nn nc=J q1 l.length q2:=hq;simpa using h
 clear hq;obtain⟨h0,h1,h2⟩:=gQ w #[K L me,J no nn nc,av,sv,ev,ov] #[K L k,K L tc,K L ts,K L ic,K L is,J po pn pc,J Jq ln lc] 33 43;have B0:=D h0;have X5:=D h2;have HS:=D (hs.on h0);have HN:=D hnn;have c1:=h1.cell 1;simp only [aF,aA,aB] at c1;have nb:nn<=900:=by omega
 have W2:=D h2.lt;clear h0 h1 h2 hs hlen hnn;go_enter Tryz.func61,Tryz.ntmps61;go_upto_region 1 with fail;generalize (w.alloc (ah #[K L me,J no nn nc,av,sv,ev,ov] 33)).alloc (ah #[K L k,K L tc,K L ts,K L ic,K L is,J po pn pc,J Jq ln lc] 43)=W at *;go_wp2
 go_loopw [7,13] (fun v i wr=>∃ q:Nat,q<=nn/\i=K L q/\Below W.heap.size W wr/\iZ wr W.heap.size v (lq (l.take q) but fun n=>(n,k,tc,ts,ic,is,(po,pn,pc),(Jq,ln,lc)))) (fun _ i _=>nn-(intOf i).toNat)
 case atStart=>exact⟨0,bD _,rfl,aI _ _,gy _ _⟩
 case round =>
  obtain⟨q,hq,rfl,hbe,hown⟩:=hrel;have BE:=D hbe;have OE:=D hown;clear hbe hown;by_cases hlt:q<nn
  ·obtain⟨y,hy⟩:∃ y,l[q]?=aj y:=⟨_,V (by rw [<- HN.out]; exact hlt)⟩;obtain⟨p,ix,_,px⟩:=kX Nm.IL HS.out rfl HN.out.symm hy;have p0:wr.cell? p=aj (K L y):=by simpa [aO] using px wr BE.out 0 _ rfl
   have ix:∀ w,(Instr.indexAt 25 (J no nn nc) (K L q)).run ay w=.ok (aZ (aj p)) w:=ix;have FS:=D (show lq (l.take (q+1)) but (fun n=>((n,k,tc,ts,ic,is,(po,pn,pc),(Jq,ln,lc)):mU))=lq (l.take q) but (fun n=>(n,k,tc,ts,ic,is,(po,pn,pc),(Jq,ln,lc)))++(if (y != but)=aD then [(y,k,tc,ts,ic,is,(po,pn,pc),(Jq,ln,lc))] else []) by
    unfold lq;rw [yE l q y _ hy,List.map_append];cases y != but <;> rfl)
   have hw3:IntKind.i64.wrap ((q:Int)+1)=(q:Int)+1:=aR _ (by omega);obtain⟨r,hr⟩:∃ r,(y != but)=r:=⟨_,rfl⟩;rw [hr] at FS;clear px hy;cases r
   ·go_wp2
    go_roundw
    case rel=>exact⟨q+1,by omega,by go_num,BE.out,by
     rw [FS.out];simpa using OE.out⟩
    case measure=>simp [intOf]; omega
   ·have x_:=X5.out.on BE.out;obtain⟨x0,x1,x2,x3,x4,x5,x6⟩:=x_.oq;have NB:=D (fO wr (ah #[K L y,K L k,K L tc,K L ts,K L ic,K L is,J po pn pc,J Jq ln lc] 58));have hlit:=gZ FR wr [(y,k,tc,ts,ic,is,(po,pn,pc),(Jq,ln,lc))] 1 rfl (by simp) #[K L y,K L k,K L tc,K L ts,K L ic,K L is,J po pn pc,J Jq ln lc] rfl;have o2:=dx OE.out NB.out;have hB:W.heap.size<=(wr.alloc (ah #[K L y,K L k,K L tc,K L ts,K L ic,K L is,J po pn pc,J Jq ln lc] 58)).heap.size:=by have h1:=BE.out.size; simp; omega
    obtain⟨v',w',r',o',gr⟩:=fT FR W.heap.size o2 (aN hlit) (by
     unfold lq;rw [aL];have h1:=List.length_filter_le (fun n=>n != but) (l.take q);rw [bS] at h1;omega) (by simp) hB 44
    have r':(Builtin.append_ #[44,44] 44 #[u7,J (aj ⟨wr.heap.size,0,U⟩) 1 1]).run ay (wr.alloc (ah #[K L y,K L k,K L tc,K L ts,K L ic,K L is,J po pn pc,J Jq ln lc] 58))=.ok v' w':=by
     simpa [EU] using r'
    have BG:=D ((BE.out.trans (NB.out.mono BE.out.size)).grown gr hB fun j hj=>(o2.lt j hj).1);have OG:=D o';clear hlit o2 hB o' gr OE x_;go_wp2_with (first | (at_builtin; refine wpList_append_run rfl _ _ 44 rfl rfl rfl r' ?_) | fail)
    go_roundw
    case rel=>exact⟨q+1,by omega,by go_num,BG.out,by
     rw [FS.out];simpa using OG.out⟩
    case measure=>simp [intOf]; omega
  ·obtain rfl:nn=q:=by omega
   have e:l.take nn=l:=List.take_of_length_le (by have:=HN.out; omega);rw [e] at OE;obtain⟨Ai,Aj,hv⟩:=(aN OE.out).len;subst hv;clear e;go_wp2;go_ret;exact⟨⟨(Ai,_,Aj),rfl,dG OE.out (by have:=W2.out; omega)⟩,B0.out.trans (BE.out.mono B0.out.size)⟩
end Bk
namespace Bk
open Go.RowKit Rw YtkcfgbddlpomgaaGreat.Nm Pr Rl
def VW (c:C5):Cn:=(c.1,if c.2.1=1 then .rg c.2.2.1 c.2.2.2.1 else if c.2.1=2 then .tx c.2.2.2.2 else .pr c.2.2.2.2)
theorem aaH (c:Cn):VW (r5 c)=c:=by
 obtain⟨n,k⟩:=c;cases k <;> simp [VW,r5,kN,jh,ji,kT]
theorem oH (a:List Cn):(a.map r5).map VW=a:=by
 rw [List.map_map];have h:VW∘r5=id:=funext aaH;rw [h,List.map_id]
def dQ (p:List C5):Prop:=∃ a:List Cn,NF a/\p=a.map r5
def mF (p q:List C5):Bool:=oG (p.map VW) (q.map VW)
theorem QN (Bc bv:aV) (p q:List C5) (w:aQ) (ha:fK w Bc p) (hb:fK w bv q) (hp:dQ p) (hq:dQ q) :
  bQ ay 110 #[Bc,bv] w fun e w'=>e=aT (Y (mF p q))/\Below w.heap.size w w':=by
 obtain⟨a,na,rfl⟩:=hp;obtain⟨b,nb,rfl⟩:=hq;unfold mF;rw [oH,oH];exact Fq Bc bv a b w ha hb (by have:=na.five; omega) (by have:=nb.five; omega)
def QO (t:Id) (p:List C5) (e:En):Bool:=decide (e.tree=t) && (e.up && mF e.p p)
def eU (m:List En) (t:Id) (p:List C5):Bool:=m.any (QO t p)
theorem uK (me:Int) (nv av sv ov:aV) (ev:Sl) (l:List iF) (m:List En) (x:Id) (pv:aV) (p':List C5) (w:aQ) (hs:kC w (dP ev) l) (hu:eu (je w) l m) (hp:fK w pv p') (hok:∀ e∈m,dQ e.p) (hop:dQ p') :
  bQ ay 92 #[aX #[K L me,nv,av,sv,dP ev,ov],lV x,pv] w fun e w'=>e=aT (Y (eU m x p'))/\Below w.heap.size w w':=by
 have HU:=D hu;have HP:=D hp;have OK:=D hok;have OP:=D hop;obtain⟨pa,pc,rfl⟩:=hp.len;obtain⟨pn,hpn⟩:∃ n,n=p'.length:=⟨_,rfl⟩;rw [<- hpn] at HP ⊢;clear hu hp hok hop hpn;obtain⟨c,d⟩:=x;obtain⟨so,sn,sc⟩:=ev;obtain⟨ao,ac,hv⟩:=hs.len;have hv:J so sn sc=J ao l.length ac:=hv;obtain⟨rfl,rfl,rfl⟩:so=ao/\sn=l.length/\sc=ac:=by simpa using hv
 obtain⟨h0,h1,h2⟩:=gQ w #[K L me,nv,av,sv,J so l.length sc,ov] #[K L c,K L d] 33 38;have B:=D h0;have HS:=D (hs.on h0);have X2:=D h1;have X3:=D h2;have lm:=hs.most;unfold maxLen at lm;obtain⟨n,hn⟩:∃ n,n=l.length:=⟨_,rfl⟩;have q3:=h1.cell 4;simp only [aF,aA,aB] at q3;rw [<- hn] at HS X2 lm q3 B X3 ⊢;have HN:=D hn.symm;clear h0 h1 h2 hs hv hn;go_enter Tryz.func92,Tryz.ntmps92;go_upto_region 1 with fail;generalize (w.alloc (ah #[K L me,nv,av,sv,J so n sc,ov] 33)).alloc (ah #[K L c,K L d] 38)=W at *;go_wp2
 go_loopw [12] (fun i wr=>∃ k:Nat,k<=n/\i=K L k/\Below W.heap.size W wr/\∀ (j:Nat) (y:En),j<k->m[j]?=aj y->QO (c,d) p' y=X) (fun i _=>n-(intOf i).toNat)
 case atStart=>exact⟨0,bD _,rfl,aI _ _,fun j y h=>by omega⟩
 case round =>
  obtain⟨k,hk,rfl,hbe,hall⟩:=hrel;have BE:=D hbe;have AL:=D hall;clear hbe hall;by_cases hlt:k<n
  ·obtain⟨y,hy⟩:∃ y,l[k]?=aj y:=⟨_,V (by rw [HN.out]; exact hlt)⟩;obtain⟨p,ix,px⟩:=Px HS.out rfl HN.out hy;obtain⟨p0,p1,p2,p3,p4,p5,p6⟩:=px wr BE.out;obtain⟨y1,y2,y3,y4,⟨yo,yn,yc⟩,y6,y7⟩:=y;simp only at p0 p1 p2 p3 p4 p5 p6;have NB:=D (fO wr (ah #[K L y1,K L y2,K L y3,K L y4,J yo yn yc,K L y6,Y y7] 68));obtain⟨x0,x1⟩:=((X3.out.on BE.out).on NB.out).cs2;have hw3:IntKind.i64.wrap ((k:Int)+1)=(k:Int)+1:=aR _ (by omega);obtain⟨me_,hm,hin⟩:=xU HU.out k _ hy;obtain⟨r,hr⟩:∃ r,(y1 == c && y2 == d)=r:=⟨_,rfl⟩;obtain⟨t,ht⟩:∃ r,mF me_.p p'=r:=⟨_,rfl⟩;have he:=uF y1 y2 c d r hr;have HV:=D (show QO (c,d) p' me_=(r && (y7 && t)) by
    rw [<- hr,<- ht];unfold QO;rw [<- hin.1,<- hin.2.2.2.1];by_cases g1:y1=c <;> by_cases g2:y2=d <;> simp [g1,g2])
   have HM:=D hm;have CV:=D (fun W' (hb':Below w.heap.size w W')=>(QN (J yo yn yc) (J pa pn pc) me_.p p' W' (hin.2.2.2.2.on hb') (HP.out.on hb') (OK.out _ (aG hm)) OP.out));rw [ht] at CV;clear px hy hr ht hm hin;cases r
   ·go_wp2
    go_roundw
    case rel=>exact⟨k+1,by omega,by go_num,BE.out.trans (NB.out.mono BE.out.size),fun j y' hj h1=>by
     rcases aP j k with h3|h3
     ·exact AL.out j y' h3 h1
     ·obtain rfl:j=k:=by omega
      have e1:=HM.out;rw [h1] at e1;rw [ak e1];exact HV.out.trans (by simp)⟩
    case measure=>simp [intOf]; omega
   ·cases y7
    ·go_wp2
     go_roundw
     case rel=>exact⟨k+1,by omega,by go_num,BE.out.trans (NB.out.mono BE.out.size),fun j y' hj h1=>by
     rcases aP j k with h3|h3
     ·exact AL.out j y' h3 h1
     ·obtain rfl:j=k:=by omega
      have e1:=HM.out;rw [h1] at e1;rw [ak e1];exact HV.out.trans (by simp)⟩
     case measure=>simp [intOf]; omega
    ·have BF:=D (BE.out.trans (NB.out.mono BE.out.size));have CW:=D (CV.out _ (B.out.trans (BF.out.mono B.out.size)));clear CV;go_wp2_with fail;refine CW.out.mono ?_;rintro e3 w3 ⟨rfl,hb⟩;have BG:=D (BF.out.trans (hb.mono BF.out.size));clear CW hb x0 x1 p0 p1 p2 p3 p4 p5 p6 ix he;cases t
     ·go_wp2
      go_roundw
      case rel=>exact⟨k+1,by omega,by go_num,BG.out,fun j y' hj h1=>by
     rcases aP j k with h3|h3
     ·exact AL.out j y' h3 h1
     ·obtain rfl:j=k:=by omega
      have e1:=HM.out;rw [h1] at e1;rw [ak e1];exact HV.out.trans (by simp)⟩
      case measure=>simp [intOf]; omega
     ·go_wp2;go_ret;have hd:eU m (c,d) p'=aD:=by
       unfold eU;rw [bU];exact⟨me_,aG HM.out,HV.out.trans (by simp)⟩
      exact⟨by rw [hd]; rfl,B.out.trans (BG.out.mono B.out.size)⟩
  ·obtain rfl:k=n:=by omega
   go_wp2;go_ret;have hd:eU m (c,d) p'=X:=by
    unfold eU;rw [bR];intro e he;obtain⟨j,hj,hje⟩:=bK he;have h9:=AL.out j e (by rw [<- HN.out,HU.out.len]; exact hj) (by rw [V hj,hje]);simpa using h9
   exact⟨by rw [hd]; rfl,B.out.trans (BE.out.mono B.out.size)⟩
def iK {κ:Type} [DecidableEq κ]:List κ->κ->Int
 | [],_=>-1
 | a::l,x=>if a=x then 0 else if iK l x=-1 then -1 else iK l x+1
theorem tZ {κ:Type} [DecidableEq κ] (l:List κ) (x:κ) (h:∀ (j:Nat) (y:κ),l[j]?=aj y->y≠x):iK l x=-1:=by
 induction l with
 | nil=>rfl
 | cons a l ih=>rw [iK,if_neg (h 0 a rfl),ih fun j y hj=>h (j+1) y (by simpa using hj),if_pos rfl]
theorem FT {κ:Type} [DecidableEq κ] (l:List κ) (k:Nat) (x:κ) (h:l[k]?=aj x) (hall:∀ (j:Nat) (z:κ),j<k->l[j]?=aj z->z≠x):iK l x=k:=by
 induction l generalizing k with
 | nil=>simp at h
 | cons a l ih =>
  cases k with
  | zero =>
   obtain rfl:a=x:=by simpa using h
   rw [iK,if_pos rfl]
   rfl
  | succ k =>
   have h2:=ih k (by simpa using h) fun j z hj hz=>hall (j+1) z (by omega) (by simpa using hz);rw [iK,if_neg (hall 0 a (by omega) rfl),h2,if_neg (by omega)];omega
theorem mJ {κ:Type} [DecidableEq κ] (l:List κ) (x:κ):iK l x=-1\/∃ k:Nat,iK l x=k/\l[k]?=aj x:=by
 induction l with
 | nil=>exact bM rfl
 | cons a l ih =>
  rw [iK];by_cases h:a=x
  ·rw [if_pos h];exact aU ⟨0,rfl,by rw [h]; rfl⟩
  ·rw [if_neg h];rcases ih with h2|⟨k,h2,h3⟩
   ·rw [if_pos h2];exact bM rfl
   ·rw [if_neg (by omega),h2];exact aU ⟨k+1,by omega,by simpa using h3⟩
abbrev iH (e:iF):Id×Id:=((e.1,e.2.1),(e.2.2.1,e.2.2.2.1))
theorem yU (me:Int) (nv av sv ov:aV) (ev:Sl) (l:List iF) (x z:Id) (w:aQ) (hs:kC w (dP ev) l) :
  bQ ay 91 #[aX #[K L me,nv,av,sv,dP ev,ov],lV x,lV z] w fun e w'=>e=aT (K L (iK (l.map iH) (x,z)))/\Below w.heap.size w w':=by
 obtain⟨c,d⟩:=x;obtain⟨g,h⟩:=z;obtain⟨so,sn,sc⟩:=ev;obtain⟨ao,ac,hv⟩:=hs.len;have hv:J so sn sc=J ao l.length ac:=hv;obtain⟨rfl,rfl,rfl⟩:so=ao/\sn=l.length/\sc=ac:=by simpa using hv
 obtain⟨h0,h1,h2,h3⟩:=gM w #[K L me,nv,av,sv,J so l.length sc,ov] #[K L c,K L d] #[K L g,K L h] 33 38 38;have B:=D h0;have HS:=D (hs.on h0);have X2:=D h1;have X3:=D h2;have X4:=D h3;have lm:=hs.most;unfold maxLen at lm;obtain⟨n,hn⟩:∃ n,n=l.length:=⟨_,rfl⟩;have q3:=h1.cell 4;simp only [aF,aA,aB] at q3;rw [<- hn] at HS X2 lm q3 B X3 X4 ⊢;have HN:=D hn.symm;clear h0 h1 h2 h3 hs hv hn;go_enter Tryz.func91,Tryz.ntmps91;go_upto_region 1 with fail;generalize ((w.alloc (ah #[K L me,nv,av,sv,J so n sc,ov] 33)).alloc (ah #[K L c,K L d] 38)).alloc (ah #[K L g,K L h] 38)=W at *;go_wp2
 go_loopw [12] (fun i wr=>∃ k:Nat,k<=n/\i=K L k/\Below W.heap.size W wr/\∀ (j:Nat) (y:iF),j<k->l[j]?=aj y->iH y≠((c,d),(g,h))) (fun i _=>n-(intOf i).toNat)
 case atStart=>exact⟨0,bD _,rfl,aI _ _,fun j y h=>by omega⟩
 case round =>
  obtain⟨k,hk,rfl,hbe,hall⟩:=hrel;have BE:=D hbe;have AL:=D hall;clear hbe hall;by_cases hlt:k<n
  ·obtain⟨y,hy⟩:∃ y,l[k]?=aj y:=⟨_,V (by rw [HN.out]; exact hlt)⟩;obtain⟨p,ix,px⟩:=Px HS.out rfl HN.out hy;obtain⟨p0,p1,p2,p3,p4,p5,p6⟩:=px wr BE.out;obtain⟨y1,y2,y3,y4,⟨yo,yn,yc⟩,y6,y7⟩:=y;simp only at p0 p1 p2 p3 p4 p5 p6;have NB:=D (fO wr (ah #[K L y1,K L y2,K L y3,K L y4,J yo yn yc,K L y6,Y y7] 68));obtain⟨x0,x1⟩:=((X3.out.on BE.out).on NB.out).cs2;obtain⟨z0,z1⟩:=((X4.out.on BE.out).on NB.out).cs2;have hw3:IntKind.i64.wrap ((k:Int)+1)=(k:Int)+1:=aR _ (by omega);obtain⟨r,hr⟩:∃ r,(y1 == c && y2 == d)=r:=⟨_,rfl⟩;obtain⟨t,ht⟩:∃ r,(y3 == g && y4 == h)=r:=⟨_,rfl⟩;have he:=uF y1 y2 c d r hr;have hf:=uF y3 y4 g h t ht;have HY:=D hy;have HR:=D hr;have HT:=D ht;clear px hy hr ht;cases r
   ·go_wp2
    go_roundw
    case rel=>exact⟨k+1,by omega,by go_num,BE.out.trans (NB.out.mono BE.out.size),fun j y' hj h1=>by
     rcases aP j k with h3|h3
     ·exact AL.out j y' h3 h1
     ·obtain rfl:j=k:=by omega
      have e1:=HY.out;rw [h1] at e1;rw [ak e1];intro e;obtain⟨⟨rfl,rfl⟩,_⟩:(y1=c/\y2=d)/\(y3=g/\y4=h):=by simpa [iH] using e
      have:=HR.out;simp at this⟩
    case measure=>simp [intOf]; omega
   ·cases t
    ·go_wp2
     go_roundw
     case rel=>exact⟨k+1,by omega,by go_num,BE.out.trans (NB.out.mono BE.out.size),fun j y' hj h1=>by
      rcases aP j k with h3|h3
      ·exact AL.out j y' h3 h1
      ·obtain rfl:j=k:=by omega
       have e1:=HY.out;rw [h1] at e1;rw [ak e1];intro e;obtain⟨_,rfl,rfl⟩:(y1=c/\y2=d)/\(y3=g/\y4=h):=by simpa [iH] using e
       have:=HT.out;simp at this⟩
     case measure=>simp [intOf]; omega
    ·go_wp2;go_ret;have h8:=HR.out;have h9:=HT.out;obtain⟨rfl,rfl⟩:y1=c/\y2=d:=by simpa using h8
     obtain⟨rfl,rfl⟩:y3=g/\y4=h:=by simpa using h9
     exact⟨by rw [FT (l.map iH) k ((y1,y2),(y3,y4)) (by rw [aS,HY.out]; rfl) (fun j z hj hz=>by
      rw [aS] at hz;cases hl:l[j]? with
      | none=>rw [hl] at hz; cases hz
      | some q =>
       rw [hl] at hz;have hz:iH q=z:=ak hz;rw [<- hz];exact AL.out j q hj hl)]; rfl,B.out.trans ((BE.out.trans (NB.out.mono BE.out.size)).mono B.out.size)⟩
  ·obtain rfl:k=n:=by omega
   go_wp2;go_ret;have hd:iK (l.map iH) ((c,d),(g,h))=-1:=tZ _ _ fun j z hz=>by
    rw [aS] at hz;cases hl:l[j]? with
    | none=>rw [hl] at hz; cases hz
    | some q =>
     rw [hl] at hz;have hz:iH q=z:=ak hz;rw [<- hz];exact AL.out j q (by rw [<- HN.out]; exact (aK.1 hl).1) hl
   exact⟨by rw [hd]; rfl,B.out.trans (BE.out.mono B.out.size)⟩
end Bk
namespace Bk
open Go.RowKit Go.Sort Rw YtkcfgbddlpomgaaGreat.Nm Pr
theorem vZ {κ:Type} (f:κ->Bool) (l:List κ) (k:Nat) (hall:∀ (j:Nat) (y:κ),j<k->l[j]?=aj y->f y=aD) (hend:k=l.length\/∃ y,l[k]?=aj y/\f y=X):(l.takeWhile f).length=k:=by
 induction l generalizing k with
 | nil =>
  rcases hend with h|⟨y,h,_⟩
  ·rw [h]; rfl
  ·simp at h
 | cons a l ih =>
  cases k with
  | zero =>
   rcases hend with h|⟨y,h,h2⟩
   ·simp at h
   ·obtain rfl:a=y:=by simpa using h
    rw [bL,h2]
    rfl
  | succ k =>
   have h0:=hall 0 a (by omega) rfl;rw [bL,h0];simp only [if_true,List.length_cons];rw [ih k (fun j y hj hy=>hall (j+1) y (by omega) (by simpa using hy)) (by
    rcases hend with h|⟨y,h,h2⟩
    ·exact bM (by simpa using h)
    ·exact aU ⟨y,by simpa using h,h2⟩)]
def jc (a b:Id×Id):Bool:=dZ a.1 b.1 || (eqI a.1 b.1 && dZ a.2 b.2)
def eH (l:List (Id×Id)) (x:Id×Id):Nat:=(l.takeWhile fun a=>jc a x).length
noncomputable def acw:Code:=((Tryz.f57.body.bind (gL 0)).getD .skip)
theorem wh (Q:Exit->Act->aQ->Prop) (W:aQ) (b2 b3:Nat) (me c d g h:Int) (y1_ y2_ y3_ y5_ p3' p4' p5':aV) (so:Option cB) (n sc:Nat) (l:List iF) (u0 u1 u4 u5 u6 u8 u9 u10 u11 u12 u13 u14 u15 u16 u17 u18 u19 u20 u21 u22 u23 u24 u25 u26 u27 u28 u29 u30 u31 u32 u33 u34 u35 u36 u37 u38 u39 u40 u41 u42 u43 u44 u45 u46 u47 u48 u49 u50 u51 u52 u53 u54 u55 u56 u57 u58 u59 u60 u61 u62 u63 u64 u65 u66 u67 u68 u69 u70 u71 u72 u73 u74 u75 u76 u77 u78 u79 u80 u81 u82 u83 u84 u85 u86 u87 u88 u89 u90 u91 u92 u93 u94 u95 u96 u97 u98 u99 u100 u101 u102 u103 u104 u105 u106 u107 u108 u109 u110 u111 u112 u113 u114:aV)
  (h2:dI W b2 #[K L me,y1_,y2_,y3_,J so n sc,y5_] 33) (h3:dI W b3 #[K L c,K L d,K L g,K L h,p3',p4',p5'] 68) (hs:kC W (J so n sc) l) (hn:n=l.length) (hm:n<=1000000)
  (hQ:∀ (wr:aQ) (v57 v58 v59 v60 v61 v62 v63 v64 v65 v66 v67 v68 v69 v70 v71 v72 v73 v74 v75 v76 v77 v78 v79 v80 v81 v82 v83 v84 v85 v86 v87 v88 v89 v90 v91 v92 v93 v94 v95 v96:aV),Below W.heap.size W wr->Q .normal ⟨(u0::u1::aZ (aj ⟨b2,0,U⟩)::aZ (aj ⟨b3,0,U⟩)::u4::u5::u6::K L (eH (l.map iH) ((c,d),(g,h)):Nat)::u8::u9::u10::u11::u12::u13::u14::u15::u16::u17::u18::u19::u20::u21::u22::u23::u24::u25::u26::u27::u28::u29::u30::u31::u32::u33::u34::u35::u36::u37::u38::u39::u40::u41::u42::u43::u44::u45::u46::u47::u48::u49::u50::u51::u52::u53::u54::u55::u56::v57::v58::v59::v60::v61::v62::v63::v64::v65::v66::v67::v68::v69::v70::v71::v72::v73::v74::v75::v76::v77::v78::v79::v80::v81::v82::v83::v84::v85::v86::v87::v88::v89::v90::v91::v92::v93::v94::v95::v96::u97::u98::u99::u100::u101::u102::u103::u104::u105::u106::u107::u108::u109::u110::u111::u112::u113::u114::[]).toArray,[]⟩ wr) :
  Code.wp ay acw Q ⟨(u0::u1::aZ (aj ⟨b2,0,U⟩)::aZ (aj ⟨b3,0,U⟩)::u4::u5::u6::K L 0::u8::u9::u10::u11::u12::u13::u14::u15::u16::u17::u18::u19::u20::u21::u22::u23::u24::u25::u26::u27::u28::u29::u30::u31::u32::u33::u34::u35::u36::u37::u38::u39::u40::u41::u42::u43::u44::u45::u46::u47::u48::u49::u50::u51::u52::u53::u54::u55::u56::u57::u58::u59::u60::u61::u62::u63::u64::u65::u66::u67::u68::u69::u70::u71::u72::u73::u74::u75::u76::u77::u78::u79::u80::u81::u82::u83::u84::u85::u86::u87::u88::u89::u90::u91::u92::u93::u94::u95::u96::u97::u98::u99::u100::u101::u102::u103::u104::u105::u106::u107::u108::u109::u110::u111::u112::u113::u114::[]).toArray,[]⟩ W:=by
 have HQ:=D hQ;have H2:=D h2;have H3:=D h3;have HS:=D hs;have HN:=D hn;clear hQ h2 h3 hs hn
 conv=>arg 2; whnf
 go_wp2
 go_loopw [7] (fun i wr=>∃ k:Nat,k<=n/\i=K L k/\Below W.heap.size W wr/\∀ (j:Nat) (y:Id×Id),j<k->(l.map iH)[j]?=aj y->jc y ((c,d),(g,h))=aD) (fun i _=>n-(intOf i).toNat)
 case atStart=>exact⟨0,bD _,rfl,aI _ _,fun j y h=>by omega⟩
 case round =>
  obtain⟨k,hk,rfl,hbe,hall⟩:=hrel;have BE:=D hbe;have AL:=D hall;clear hbe hall;have q0:=Z (show wr.cell? ⟨b2,4,U⟩=aj (J so n sc) from (H2.out.on BE.out).cell 4);have r0:=Z (show wr.cell? ⟨b3,0,U⟩=aj (K L c) from (H3.out.on BE.out).cell 0);have r1:=Z (show wr.cell? ⟨b3,1,U⟩=aj (K L d) from (H3.out.on BE.out).cell 1);have r2:=Z (show wr.cell? ⟨b3,2,U⟩=aj (K L g) from (H3.out.on BE.out).cell 2);have r3:=Z (show wr.cell? ⟨b3,3,U⟩=aj (K L h) from (H3.out.on BE.out).cell 3);have hw3:IntKind.i64.wrap ((k:Int)+1)=(k:Int)+1:=aR _ (by omega);by_cases hlt:k<n
  ·obtain⟨y,hy⟩:∃ y,l[k]?=aj y:=⟨_,V (by rw [<- HN.out]; exact hlt)⟩;obtain⟨p,ix,px⟩:=Px HS.out rfl HN.out.symm hy;have xu:=px wr BE.out;obtain⟨y1,y2,y3,y4,⟨yo,yn,yc⟩,y6,y7⟩:=y;simp only at xu;have p0:=Z xu.1;have p1:=Z xu.2.1;have p2:=Z xu.2.2.1;have p3:=Z xu.2.2.2.1;have wP:decide ((k:Int)<(n:Int))=aD:=decide_eq_true (by omega);have Au:decide (k<n)=aD:=decide_eq_true hlt;obtain⟨r,hr⟩:∃ r,dZ (y1,y2) (c,d)=r:=⟨_,rfl⟩;obtain⟨t,ht⟩:∃ r,(y1 == c && y2 == d)=r:=⟨_,rfl⟩;obtain⟨s,hs⟩:∃ r,dZ (y3,y4) (g,h)=r:=⟨_,rfl⟩;have he:=uF y1 y2 c d t ht;have LS:=D (fun d' os=>bF (d:=d') (os:=os) ((rF (y1,y2) (c,d) (grow (aY wr d') os)).mono fun _ _ h=>⟨by rw [h.1,hr],h.2⟩));have LT:=D (fun d' os=>bF (d:=d') (os:=os) ((rF (y3,y4) (g,h) (grow (aY wr d') os)).mono fun _ _ h=>⟨by rw [h.1,hs],h.2⟩));have HY:=D (show (l.map iH)[k]?=aj ((y1,y2),(y3,y4)) by rw [aS,hy]; rfl);have HV:=D (show jc ((y1,y2),(y3,y4)) ((c,d),(g,h))=(r || (t && s)) by rw [<- hr,<- ht,<- hs]; rfl);clear px xu hy hr ht hs;cases r
   ·cases t
    ·have HR:=D (HV.out.trans (show _=X by simp));go_wp2_with fail;refine wp_region_quiet_below (by kernel_rfl) (by kernel_rfl) ?_
     repeat (go_big_quiet_step (first | (with_reducible exact LS.out _ _) | (with_reducible exact LT.out _ _)))
     refine wpQuiet_nil ?_;intro _ hw';obtain⟨⟨dq,osq⟩,hw''⟩:=hw';subst hw'';have Z6:=aC wr dq osq;have HF:=D (fun v57 v58 v59 v60 v61 v62 v63 v64 v65 v66 v67 v68 v69 v70 v71 v72 v73 v74 v75 v76 v77 v78 v79 v80 v81 v82 v83 v84 v85 v86 v87 v88 v89 v90 v91 v92 v93 v94 v95 v96=>HQ.out (grow (aY wr dq) osq) v57 v58 v59 v60 v61 v62 v63 v64 v65 v66 v67 v68 v69 v70 v71 v72 v73 v74 v75 v76 v77 v78 v79 v80 v81 v82 v83 v84 v85 v86 v87 v88 v89 v90 v91 v92 v93 v94 v95 v96 (BE.out.trans (Z6.mono BE.out.size)));rw [show eH (l.map iH) ((c,d),(g,h))=k from vZ _ _ k AL.out (aU ⟨_,HY.out,HR.out⟩)] at HF;clear ix HQ q0 r0 r1 r2 r3 LS LT wP Au p0 p1 p2 p3 he;go_wp2;exact HF.out _ _ _ _ _ _ _ _ _ _ _ _ _ _ _ _ _ _ _ _ _ _ _ _ _ _ _ _ _ _ _ _ _ _ _ _ _ _ _ _
    ·cases s
     ·have HR:=D (HV.out.trans (show _=X by simp));go_wp2_with fail;refine wp_region_quiet_below (by kernel_rfl) (by kernel_rfl) ?_
      repeat (go_big_quiet_step (first | (with_reducible exact LS.out _ _) | (with_reducible exact LT.out _ _)))
      refine wpQuiet_nil ?_;intro _ hw';obtain⟨⟨dq,osq⟩,hw''⟩:=hw';subst hw'';have Z6:=aC wr dq osq;have HF:=D (fun v57 v58 v59 v60 v61 v62 v63 v64 v65 v66 v67 v68 v69 v70 v71 v72 v73 v74 v75 v76 v77 v78 v79 v80 v81 v82 v83 v84 v85 v86 v87 v88 v89 v90 v91 v92 v93 v94 v95 v96=>HQ.out (grow (aY wr dq) osq) v57 v58 v59 v60 v61 v62 v63 v64 v65 v66 v67 v68 v69 v70 v71 v72 v73 v74 v75 v76 v77 v78 v79 v80 v81 v82 v83 v84 v85 v86 v87 v88 v89 v90 v91 v92 v93 v94 v95 v96 (BE.out.trans (Z6.mono BE.out.size)));rw [show eH (l.map iH) ((c,d),(g,h))=k from vZ _ _ k AL.out (aU ⟨_,HY.out,HR.out⟩)] at HF;clear ix HQ q0 r0 r1 r2 r3 LS LT wP Au p0 p1 p2 p3 he;go_wp2;exact HF.out _ _ _ _ _ _ _ _ _ _ _ _ _ _ _ _ _ _ _ _ _ _ _ _ _ _ _ _ _ _ _ _ _ _ _ _ _ _ _ _
     ·have HR:=D (HV.out.trans (show _=aD by simp));go_wp2_with fail;refine wp_region_quiet_below (by kernel_rfl) (by kernel_rfl) ?_
      repeat (go_big_quiet_step (first | (with_reducible exact LS.out _ _) | (with_reducible exact LT.out _ _)))
      refine wpQuiet_nil ?_;intro _ hw';obtain⟨⟨dq,osq⟩,hw''⟩:=hw';subst hw'';have Z6:=D (aC wr dq osq);clear ix q0 r0 r1 r2 r3 LS LT wP Au p0 p1 p2 p3 he;go_wp2
      go_roundw
      case rel=>exact⟨k+1,by omega,by go_num,BE.out.trans (Z6.out.mono BE.out.size),fun j y' hj h1=>by
       rcases aP j k with h3|h3
       ·exact AL.out j y' h3 h1
       ·obtain rfl:j=k:=by omega
        have e1:=HY.out;rw [h1] at e1;rw [ak e1];exact HR.out⟩
      case measure=>simp [intOf]; omega
   ·have HR:=D (HV.out.trans (show _=aD by simp));go_wp2_with fail;refine wp_region_quiet_below (by kernel_rfl) (by kernel_rfl) ?_
    repeat (go_big_quiet_step (first | (with_reducible exact LS.out _ _) | (with_reducible exact LT.out _ _)))
    refine wpQuiet_nil ?_;intro _ hw';obtain⟨⟨dq,osq⟩,hw''⟩:=hw';subst hw'';have Z6:=D (aC wr dq osq);clear ix q0 r0 r1 r2 r3 LS LT wP Au p0 p1 p2 p3 he;go_wp2
    go_roundw
    case rel=>exact⟨k+1,by omega,by go_num,BE.out.trans (Z6.out.mono BE.out.size),fun j y' hj h1=>by
     rcases aP j k with h3|h3
     ·exact AL.out j y' h3 h1
     ·obtain rfl:j=k:=by omega
      have e1:=HY.out;rw [h1] at e1;rw [ak e1];exact HR.out⟩
    case measure=>simp [intOf]; omega
  ·obtain rfl:n=k:=by omega
   have wP:decide ((n:Int)<(n:Int))=X:=by simp
   have Au:decide (n<n)=X:=by simp
   go_wp2_with fail;refine wp_region_quiet_below (by kernel_rfl) (by kernel_rfl) ?_
   repeat (go_big_quiet_step (fail))
   refine wpQuiet_nil ?_;intro _ hw';obtain⟨⟨dq,osq⟩,hw''⟩:=hw';subst hw'';have Z6:=aC wr dq osq;have HF:=D (fun v57 v58 v59 v60 v61 v62 v63 v64 v65 v66 v67 v68 v69 v70 v71 v72 v73 v74 v75 v76 v77 v78 v79 v80 v81 v82 v83 v84 v85 v86 v87 v88 v89 v90 v91 v92 v93 v94 v95 v96=>HQ.out (grow (aY wr dq) osq) v57 v58 v59 v60 v61 v62 v63 v64 v65 v66 v67 v68 v69 v70 v71 v72 v73 v74 v75 v76 v77 v78 v79 v80 v81 v82 v83 v84 v85 v86 v87 v88 v89 v90 v91 v92 v93 v94 v95 v96 (BE.out.trans (Z6.mono BE.out.size)));rw [show eH (l.map iH) ((c,d),(g,h))=n from vZ _ _ n AL.out (bM (by simpa using HN.out))] at HF;clear HQ q0 r0 r1 r2 r3 wP Au;go_wp2;exact HF.out _ _ _ _ _ _ _ _ _ _ _ _ _ _ _ _ _ _ _ _ _ _ _ _ _ _ _ _ _ _ _ _ _ _ _ _ _ _ _ _
abbrev fu (e:En):Id×Id:=(e.tree,e.sub)
theorem keys_eq {W:aQ} {l:List iF} {m:List En} (h:eu (je W) l m):l.map iH=m.map fu:=by
 induction h with
 | nil=>rfl
 | cons x t ih=>rw [bW,bW,ih,show iH _=fu _ from Prod.ext x.1 x.2.1]
def gP (b:Br) (e:En):Br×Bool:=match b.dM[(fD (b.dM.map Ad.id) e.tree).toNat]? with
 | none=>(b,X)
 | some a=>if fD (b.dM.map Ad.id) e.tree=-1 then (b,X) else if iK (b.ent.map fu) (fu e)≠-1 then (b,X) else if e.from_≠-1/\e.from_=a.par then (b,X) else
  ({ b with ent:=fM b.ent (eH (b.ent.map fu) (fu e)) { e with up:=decide (a.par≠-1) && !eU b.ent e.tree e.p } },decide (a.par≠-1) && !eU b.ent e.tree e.p)
theorem nH (l:List (Id×Id)) (x:Id×Id):eH l x<=l.length:=by
 unfold eH;exact (List.takeWhile_sublist _).length_le
theorem lY {W:aQ} {b:Nat} {c d g h f:Int} {p:Sl} {u:Bool} (hb:dI W b #[K L c,K L d,K L g,K L h,dP p,K L f,Y u] 68):∀ x,Below W.heap.size W x->∀ j v,(iG (c,d,g,h,p,f,u))[j]?=aj v->x.cell? ((⟨b,0,U⟩:cB).add j)=aj v:=by
 intro x hx j v hj;rw [nk,(hb.on hx).cell]
 match j with
 | 0=>exact hj
 | 1=>exact hj
 | 2=>exact hj
 | 3=>exact hj
 | 4=>exact hj
 | 5=>exact hj
 | 6=>exact hj
 | j+7=>simp at hj
theorem sG (b:Br) (nv av sv ev ov:Sl) (z:iF) (e:En) (w:aQ) (es:List iF) (R:iF->En->Prop) (h_:iA w b nv av sv ev ov) (he1:kC w (dP ev) es) (he2:eu (je w) es b.ent) (hr2:eu R es b.ent) (hrz:∀ u,R (z.1,z.2.1,z.2.2.1,z.2.2.2.1,z.2.2.2.2.1,z.2.2.2.2.2.1,u) { e with up:=u }) (hz:je w z e) (l2:b.dM.length<=900) (l3:b.ent.length<=900) (hok:∀ e∈b.ent,dQ e.p) (hop:dQ e.p) :
  bQ ay 57 #[nT b.me nv av sv ev ov,qZ z] w fun e' w'=>(∃ (ev':Sl) (xs:List iF),e'=aT (.tuple #[nT b.me nv av sv ev' ov,Y (gP b e).2])/\((ev'=ev/\xs=es/\(gP b e).1=b)\/jA w' w.heap.size (dP ev') xs)/\eu R xs (gP b e).1.ent)/\Below w.heap.size w w':=by
 obtain⟨no,nn,nc⟩:=nv;obtain⟨ao,an,ac⟩:=av;obtain⟨so,sn,sc⟩:=sv;obtain⟨eo,en,ec⟩:=ev;obtain⟨oo,dL,oc⟩:=ov;obtain⟨c,d,g,h,⟨po,pn,pc⟩,fr,XO⟩:=z;obtain⟨⟨tc,td⟩,⟨sg,sh⟩,p',fr',up'⟩:=e;obtain⟨hz1,hz2,hz3,hz4,hz5⟩:=hz;obtain⟨rfl,rfl⟩:c=tc/\d=td:=by simpa using hz1
 obtain⟨rfl,rfl⟩:g=sg/\h=sh:=by simpa using hz2
 obtain rfl:fr=fr':=hz3;obtain rfl:XO=up':=hz4;have HP:=D hz5;have HR2:=D hr2;have HRZ:=D hrz;clear hr2 hrz;obtain⟨xs,hx1,hx2⟩:=h_.dM;have IDS:=D (yC hx2);have Vv:=D (keys_eq he2);have XL:=D (show xs.length<=900 by rw [hx2.len]; exact l2);have EL:=D (show es.length<=900 by rw [he2.len]; exact l3);have HA2:=D hx2;have HE2:=D he2;have OK:=D hok;have OP:=D hop;obtain⟨q1,q2,hq⟩:=hx1.len;obtain⟨rfl,rfl,rfl⟩:ao=q1/\an=xs.length/\ac=q2:=by
  have:J ao an ac=J q1 xs.length q2:=hq;simpa using this
 clear hq;obtain⟨q1,q2,hq⟩:=he1.len;obtain⟨rfl,rfl,rfl⟩:eo=q1/\en=es.length/\ec=q2:=by
  have:J eo en ec=J q1 es.length q2:=hq;simpa using this
 clear hq;have FD:=su b.me (J no nn nc) (J eo es.length ec) (J so sn sc) (J oo dL oc) (ao,xs.length,ac) xs (c,d);have EN:=yU b.me (J no nn nc) (J ao xs.length ac) (J so sn sc) (J oo dL oc) (eo,es.length,ec) es (c,d) (g,h);have CV:=fun W hb'=>uK b.me (J no nn nc) (J ao xs.length ac) (J so sn sc) (J oo dL oc) (eo,es.length,ec) es b.ent (c,d) (J po pn pc) p' W (he1.on (show Below w.heap.size w W from hb')) (he2.mono fun _ _ h=>h.on hb') (hz5.on hb') hok hop;have HH:=D h_;obtain⟨h0,h1,h2,h3⟩:=gM w #[K L b.me,J no nn nc,J ao xs.length ac,J so sn sc,J eo es.length ec,J oo dL oc] #[K L c,K L d,K L g,K L h,J po pn pc,K L fr,Y XO] #[K L 0,J U 0 0,J U 0 0,J U 0 0,J U 0 0,J U 0 0] 33 68 33;obtain⟨n2,hn2⟩:∃ n,n=xs.length:=⟨_,rfl⟩;obtain⟨n3,Qh⟩:∃ n,n=es.length:=⟨_,rfl⟩;simp only [<- hn2,<- Qh] at h0 h1 h2 h3 hx1 he1 HH FD EN CV ⊢;have B0:=D h0;have X2:=D h1;have X3:=D h2;have X5:=D h3;have HS:=D hx1;have HE:=D he1;have N2:=D hn2;have N3:=D Qh;obtain⟨me,hme⟩:∃ me,me=b.me:=⟨_,rfl⟩;simp only [<- hme] at X2 B0 X3 X5 FD EN CV ⊢;have EN:=D EN;have CV:=D CV;clear h0 h1 h2 h3 hx1 he1 hx2 he2 h_ hn2 Qh l2 l3 hme hz1 hz2 hz5 hok hop;show bQ ay 57 #[aX #[K L me,J no nn nc,J ao n2 ac,J so sn sc,J eo n3 ec,J oo dL oc],aX #[K L c,K L d,K L g,K L h,J po pn pc,K L fr,Y XO]] w _;go_enter Tryz.func57,Tryz.ntmps57;go_upto_region 1 with fail;generalize (((w.alloc (ah #[K L me,J no nn nc,J ao n2 ac,J so sn sc,J eo n3 ec,J oo dL oc] 33)).alloc (ah #[K L c,K L d,K L g,K L h,J po pn pc,K L fr,Y XO] 68)).alloc (ah #[K L 0,J U 0 0,J U 0 0,J U 0 0,J U 0 0,J U 0 0] 33))=W at *;have SW:=D (FD W (HS.out.on B0.out));clear FD;have x_:=X2.out;have y_:=X3.out;obtain⟨x0,x1,x2,x3,x4,x5⟩:=x_.eZ;obtain⟨y0,y1,y2,y3,y4,y5,y6⟩:=y_.oq;clear x_ y_;go_wp2_with fail;refine SW.out.mono ?_;rintro e1 w1 ⟨rfl,hb⟩;have B1:=D (B0.out.trans (hb.mono B0.out.size));have Y2:=D (X2.out.on hb);have Y3:=D (X3.out.on hb);have Y5:=D (X5.out.on hb);clear SW hb X2 X3 X5 x0 x1 x2 x3 x4 x5 y0 y1 y2 y3 y4 y5 y6;have a0:=Z (show w1.cell? ⟨w.heap.size,0,U⟩=aj (K L me) from Y2.out.cell 0);have a1:=Z (show w1.cell? ⟨w.heap.size,1,U⟩=aj (J no nn nc) from Y2.out.cell 1);have a2:=Z (show w1.cell? ⟨w.heap.size,2,U⟩=aj (J ao n2 ac) from Y2.out.cell 2);have a3:=Z (show w1.cell? ⟨w.heap.size,3,U⟩=aj (J so sn sc) from Y2.out.cell 3);have a4:=Z (show w1.cell? ⟨w.heap.size,4,U⟩=aj (J eo n3 ec) from Y2.out.cell 4);have a5:=Z (show w1.cell? ⟨w.heap.size,5,U⟩=aj (J oo dL oc) from Y2.out.cell 5);have b0:=Z (show w1.cell? ⟨w.heap.size+1,0,U⟩=aj (K L c) from Y3.out.cell 0);have b1:=Z (show w1.cell? ⟨w.heap.size+1,1,U⟩=aj (K L d) from Y3.out.cell 1);have b2:=Z (show w1.cell? ⟨w.heap.size+1,2,U⟩=aj (K L g) from Y3.out.cell 2);have b3:=Z (show w1.cell? ⟨w.heap.size+1,3,U⟩=aj (K L h) from Y3.out.cell 3);have b4:=Z (show w1.cell? ⟨w.heap.size+1,4,U⟩=aj (J po pn pc) from Y3.out.cell 4);have b5:=Z (show w1.cell? ⟨w.heap.size+1,5,U⟩=aj (K L fr) from Y3.out.cell 5);have b6:=Z (show w1.cell? ⟨w.heap.size+1,6,U⟩=aj (Y XO) from Y3.out.cell 6);have CE:=D (fun d os=>bF (d:=d) (os:=os) (EN.out _ ((HE.out.on B1.out).on (aC w1 d os))));clear EN;rcases Kh xs (c,d) with hf|⟨k,y,hf,hy⟩
 ·have LB:=D (show gP b ⟨(c,d),(g,h),p',fr,XO⟩=(b,X) by
   have hf':=hf;rw [IDS.out] at hf';unfold gP;simp only;rw [hf']
   split
   ·rfl
   ·rw [if_pos rfl])
  rw [hf];clear hf;go_upto_region 2 with fail;refine wp_region_quiet_below (by kernel_rfl) (by kernel_rfl) ?_
  repeat (go_big_quiet_step (fail))
  refine wpQuiet_nil ?_;intro _ hw';obtain⟨⟨dq,osq⟩,hw''⟩:=hw';subst hw'';have Z6:=aC w1 dq osq;have B2:=D (B1.out.trans (Z6.mono B1.out.size));have Z2:=D (Y2.out.on Z6);have Z3:=D (Y3.out.on Z6);have Z5:=D (Y5.out.on Z6);clear Z6 B1 Y2 Y3 Y5 a0 a1 a2 a3 a4 a5 b0 b1 b2 b3 b4 b5 b6;generalize grow (aY w1 dq) osq=w2 at *;have FB:=D (dJ Z5.out (K L me) (J no nn nc) (J ao n2 ac) (J so sn sc) (J eo n3 ec) (J oo dL oc));have BL:=D (dB (b:=w.heap.size+1+1) B2.out (by omega) (K L me) (J no nn nc) (J ao n2 ac) (J so sn sc) (J eo n3 ec) (J oo dL oc));have xQ:=Z2.out;have q9:=Z5.out;obtain⟨x0,x1,x2,x3,x4,x5⟩:=xQ.eZ;obtain⟨r0,r1,r2,r3,r4,r5⟩:=q9.eZ;obtain⟨t0,t1,t2,t3,t4,t5⟩:=q9.ku;have zz:=q9.lt;clear xQ q9;go_wp2_with fail;obtain⟨v0,v1,v2,v3,v4,v5⟩:=FB.out.eZ;refine au (v:=.tuple #[aX #[K L me,J no nn nc,J ao n2 ac,J so sn sc,J eo n3 ec,J oo dL oc],Y X]) (by simp [results,aH,go_sem,v0,v1,v2,v3,v4,v5]) rfl ?_;rw [LB.out];exact⟨⟨(eo,n3,ec),es,rfl,bM ⟨rfl,rfl,rfl⟩,HR2.out⟩,BL.out⟩
 ·have HF:=D hf;have HY:=D hy;have hk:=(aK.1 hy).1;have XL2:=XL.out;have hkn:k<n2:=by rw [N2.out]; exact hk
  obtain⟨p,ix,px⟩:=Vu HS.out rfl N2.out.symm hy;obtain⟨z1,z2,⟨zo,zn,zc⟩,par⟩:=y;have PX:=D px;have pr:=Z (show w1.cell? ⟨p.block,p.off+3,U⟩=aj (K L par) from (px w1 B1.out).2.2.2);obtain⟨a,hak⟩:∃ a,b.dM[k]?=aj a:=⟨_,V (by rw [<- HA2.out.len]; exact hk)⟩;have hap:a.par=par:=by
   obtain⟨z,hz1,hz2⟩:=HA2.out.at k a hak;rw [HY.out] at hz1;obtain rfl:=ak hz1;exact hz2.2.1.symm
  have LA:=D (show ∀ i,iK (es.map iH) ((c,d),(g,h))=i->gP b ⟨(c,d),(g,h),p',fr,XO⟩=if i≠-1 then (b,X) else if fr≠-1/\fr=par then (b,X) else ({ b with ent:=fM b.ent (eH (b.ent.map fu) ((c,d),(g,h))) ⟨(c,d),(g,h),p',fr,decide (par≠-1) && !eU b.ent (c,d) p'⟩ },decide (par≠-1) && !eU b.ent (c,d) p') from fun i hi=>by
   have hf':=HF.out;rw [IDS.out] at hf';rw [Vv.out] at hi;unfold gP;simp only;rw [hf',Int.toNat_natCast,hak];simp only;rw [if_neg (by omega),hap,hi])
  have hik:decide ((k:Int)<0)=X:=decide_eq_false (by omega);rw [hf];clear hf hy px hak hap HF HY;rcases mJ (es.map iH) ((c,d),(g,h)) with he|⟨j,he,_⟩
  ·have LC:=LA.out _ he;rw [if_neg (by simp)] at LC;rw [he] at CE;clear LA he;obtain⟨f1,hf1⟩:∃ r,(fr != -1)=r:=⟨_,rfl⟩;obtain⟨f2,hf2⟩:∃ r,(fr == par)=r:=⟨_,rfl⟩;have F1:=D hf1;have F2_:=D hf2;cases f1
   ·have LD:=LC;rw [if_neg (by exact fun q=>q.1 (by simpa using hf1))] at LD;clear LC;go_upto_region 2 with fail;refine wp_region_quiet_below (by kernel_rfl) (by kernel_rfl) ?_
    repeat (go_big_quiet_step (first | (with_reducible exact CE.out _ _)))
    refine wpQuiet_nil ?_;intro _ hw';obtain⟨⟨dq,osq⟩,hw''⟩:=hw';subst hw'';have Z6:=aC w1 dq osq;have B2:=D (B1.out.trans (Z6.mono B1.out.size));have Z2:=D (Y2.out.on Z6);have Z3:=D (Y3.out.on Z6);have Z5:=D (Y5.out.on Z6);clear Z6 B1 Y2 Y3 Y5 a0 a1 a2 a3 a4 a5 b0 b1 b2 b3 b4 b5 b6;generalize grow (aY w1 dq) osq=w2 at *;have p3b:=(PX.out w2 B2.out).2.2.2;have x_:=Z2.out;have y_:=Z3.out;obtain⟨x0,x1,x2,x3,x4,x5⟩:=x_.eZ;obtain⟨y0,y1,y2,y3,y4,y5,y6⟩:=y_.oq;clear x_ y_;obtain⟨g1,hg1⟩:∃ r,(par != -1)=r:=⟨_,rfl⟩;have GP:=D (show decide (par≠-1)=g1 by rw [<- hg1]; by_cases q:par=-1 <;> simp [q]);rw [GP.out] at LD;cases g1
    ·have LB:=D LD;clear LD CV;have B3:=D B2.out;have F2:=D Z2.out;have F3:=D Z3.out;have F5:=D Z5.out;clear B2 Z2 Z3 Z5;have f3:=F3.out;obtain⟨k0,k1,k2,k3,k4,k5,k6⟩:=f3.oq;have f36:=f3.fr 6;have QT:=f3.lt;clear f3;go_upto_region 5 with fail;clear k0 k1 k2 k3 k4 k5 k6 f36 QT;have G3:=D (show dI _ _ #[K L c,K L d,K L g,K L h,J po pn pc,K L fr,Y X] _ from by simpa using dO (k:=6) F3.out (Y X));have G2:=D (show dI _ _ _ _ from (O w2 ⟨w.heap.size+1,6,U⟩ (Y X) _ (show w.heap.size≠w.heap.size+1 by omega)).trans F2.out);have G5:=D (show dI _ _ _ _ from (O w2 ⟨w.heap.size+1,6,U⟩ (Y X) _ (show w.heap.size+1+1≠w.heap.size+1 by omega)).trans F5.out);have B4:=D (B3.out.setCell (p:=⟨w.heap.size+1,6,U⟩) (by show w.heap.size<=w.heap.size+1; omega) (Y X));clear B3 F2 F3 F5;generalize w2.setCell ⟨w.heap.size+1,6,U⟩ (Y X)=w4 at *;have R4:=D (HE.out.on B4.out)
     go_upto_block 0 with (fail)
     refine wh _ w4 w.heap.size (w.heap.size+1) me c d g h _ _ _ _ _ _ _ eo n3 ec es _ _ _ _ _ _ _ _ _ _ _ _ _ _ _ _ _ _ _ _ _ _ _ _ _ _ _ _ _ _ _ _ _ _ _ _ _ _ _ _ _ _ _ _ _ _ _ _ _ _ _ _ _ _ _ _ _ _ _ _ _ _ _ _ _ _ _ _ _ _ _ _ _ _ _ _ _ _ _ _ _ _ _ _ _ _ _ _ _ _ _ _ _ _ _ _ _ _ _ _ _ _ _ _ _ _ _ _ _ _ _ _ G2.out G3.out R4.out N3.out (by have:=EL.out; have:=N3.out; omega) ?_;intro wr v57 v58 v59 v60 v61 v62 v63 v64 v65 v66 v67 v68 v69 v70 v71 v72 v73 v74 v75 v76 v77 v78 v79 v80 v81 v82 v83 v84 v85 v86 v87 v88 v89 v90 v91 v92 v93 v94 v95 v96 hb;have B5:=D (B4.out.trans (hb.mono B4.out.size));have K2:=D (G2.out.on hb);have K3:=D (G3.out.on hb);have K5:=D (G5.out.on hb);have R5:=D (R4.out.on hb);clear hb B4 G2 G3 G5 R4;go_upto_region 8 with fail;refine Ni _ wr w.heap.size (w.heap.size+1) me _ _ _ _ eo n3 ec (eH (es.map iH) ((c,d),(g,h))) es (c,d,g,h,(po,pn,pc),fr,X) _ _ _ _ _ _ _ _ _ _ _ _ _ _ _ _ _ _ _ _ _ _ _ _ _ _ _ _ _ _ _ _ _ _ _ _ _ _ _ _ _ _ _ _ _ _ _ _ _ _ _ _ _ _ _ _ _ _ _ _ _ _ _ _ _ _ _ _ _ _ _ _ _ _ _ _ _ _ _ _ _ _ _ _ _ _ _ _ _ _ _ _ _ _ _ _ _ _ _ _ _ _ _ _ _ _ _ _ _ _ _ _ K2.out (lY (p:=(po,pn,pc)) K3.out) R5.out (by have:=nH (es.map iH) ((c,d),(g,h)); rw [aL] at this; exact this) EL.out ?_;intro xw v97 v98 v99 v100 v101 v102 v103 v104 v105 v106 v107 v108 v109 v110 v111 hbx ho hbl hoth hblk;obtain⟨lW,lX,yD⟩:=(aN ho).len;obtain⟨tl,htl⟩:∃ n,n=(es.take (eH (es.map iH) ((c,d),(g,h)))++[(c,d,g,h,(po,pn,pc),fr,X)]++es.drop (eH (es.map iH) ((c,d),(g,h)))).length:=⟨_,rfl⟩;rw [<- htl] at yD;subst yD;have B6:=D (B5.out.trans (hbl _ (aJ _)));have M2:=hbx;have M3:=hoth _ _ _ (by omega) K3.out;have M5:=hoth _ _ _ (by omega) K5.out;have OE:=D (dG ho (show w.heap.size+3<=wr.heap.size by have:=K5.out.lt; omega));clear ho hbl hoth hblk htl hbx B5 K2 K3 K5 R5;go_upto_region 9 with fail;refine vW _ xw w.heap.size (w.heap.size+1) (w.heap.size+1+1) me no ao so lW oo nn nc n2 ac sn sc tl lX dL oc _ _ _ _ _ _ _ _ _ _ _ _ X _ _ _ _ _ _ _ _ _ _ _ _ _ _ _ _ _ _ _ _ _ _ _ _ _ _ _ _ _ _ _ _ _ _ _ _ _ _ _ _ _ _ _ _ _ _ _ _ _ _ _ _ _ _ _ _ _ _ _ _ _ _ _ _ _ _ _ _ _ _ _ _ _ _ _ _ _ _ _ _ _ _ _ _ _ _ _ _ _ _ _ _ _ _ _ _ _ _ _ _ _ _ _ _ _ _ _ _ _ _ _ _ M2 M3 M5 (by omega) ?_;intro a9 x9 FU h49 h59 QU;subst QU;have FB:=D (dJ M5.drew (K L me) (J no nn nc) (J ao n2 ac) (J so sn sc) (J lW tl lX) (J oo dL oc));have BL:=D (dB (b:=w.heap.size+1+1) B6.out.drew (by omega) (K L me) (J no nn nc) (J ao n2 ac) (J so sn sc) (J lW tl lX) (J oo dL oc));have FE:=D (fE (dx OE.out ((aI xw.heap.size xw).drew)) (w.heap.size+1+1) (by omega) (K L me) (J no nn nc) (J ao n2 ac) (J so sn sc) (J lW tl lX) (J oo dL oc));clear OE M2 M3 M5 B6;simp only [Exit.then]
     apply_assumption
     go_wp2_with fail;obtain⟨v0,v1,v2,v3,v4,v5⟩:=FB.out.eZ;refine au (v:=.tuple #[aX #[K L me,J no nn nc,J ao n2 ac,J so sn sc,J lW tl lX,J oo dL oc],Y X]) (by simp [results,aH,go_sem,h49,h59,v0,v1,v2,v3,v4,v5]) FU ?_;rw [LB.out];refine⟨⟨(lW,tl,lX),_,rfl,aU (dG FE.out (show w.heap.size<=w.heap.size+3 by omega)),?_⟩,BL.out⟩;rw [<- Vv.out];exact ((HR2.out.take _).append (.cons (HRZ.out _) .nil)).append (HR2.out.drop _)
    ·have CW:=D (CV.out w2 B2.out);obtain⟨cv,hcv⟩:∃ r,eU b.ent (c,d) p'=r:=⟨_,rfl⟩;rw [hcv] at CW LD;clear CV hcv;go_wp2_with fail;refine CW.out.mono ?_;rintro e3 w3 ⟨rfl,hb⟩;have B3:=D (B2.out.trans (hb.mono B2.out.size));have F2:=D (Z2.out.on hb);have F3:=D (Z3.out.on hb);have F5:=D (Z5.out.on hb);clear hb CW B2 Z2 Z3 Z5 x0 x1 x2 x3 x4 x5 y0 y1 y2 y3 y4 y5 y6 p3b;cases cv
     ·have LB:=D LD;clear LD;have f3:=F3.out;obtain⟨k0,k1,k2,k3,k4,k5,k6⟩:=f3.oq;have f36:=f3.fr 6;have QT:=f3.lt;clear f3;go_upto_region 5 with fail;clear k0 k1 k2 k3 k4 k5 k6 f36 QT;have G3:=D (show dI _ _ #[K L c,K L d,K L g,K L h,J po pn pc,K L fr,Y aD] _ from by simpa using dO (k:=6) F3.out (Y aD));have G2:=D (show dI _ _ _ _ from (O w3 ⟨w.heap.size+1,6,U⟩ (Y aD) _ (show w.heap.size≠w.heap.size+1 by omega)).trans F2.out);have G5:=D (show dI _ _ _ _ from (O w3 ⟨w.heap.size+1,6,U⟩ (Y aD) _ (show w.heap.size+1+1≠w.heap.size+1 by omega)).trans F5.out);have B4:=D (B3.out.setCell (p:=⟨w.heap.size+1,6,U⟩) (by show w.heap.size<=w.heap.size+1; omega) (Y aD));clear B3 F2 F3 F5;generalize w3.setCell ⟨w.heap.size+1,6,U⟩ (Y aD)=w4 at *;have R4:=D (HE.out.on B4.out)
      go_upto_block 0 with (fail)
      refine wh _ w4 w.heap.size (w.heap.size+1) me c d g h _ _ _ _ _ _ _ eo n3 ec es _ _ _ _ _ _ _ _ _ _ _ _ _ _ _ _ _ _ _ _ _ _ _ _ _ _ _ _ _ _ _ _ _ _ _ _ _ _ _ _ _ _ _ _ _ _ _ _ _ _ _ _ _ _ _ _ _ _ _ _ _ _ _ _ _ _ _ _ _ _ _ _ _ _ _ _ _ _ _ _ _ _ _ _ _ _ _ _ _ _ _ _ _ _ _ _ _ _ _ _ _ _ _ _ _ _ _ _ _ _ _ _ G2.out G3.out R4.out N3.out (by have:=EL.out; have:=N3.out; omega) ?_;intro wr v57 v58 v59 v60 v61 v62 v63 v64 v65 v66 v67 v68 v69 v70 v71 v72 v73 v74 v75 v76 v77 v78 v79 v80 v81 v82 v83 v84 v85 v86 v87 v88 v89 v90 v91 v92 v93 v94 v95 v96 hb;have B5:=D (B4.out.trans (hb.mono B4.out.size));have K2:=D (G2.out.on hb);have K3:=D (G3.out.on hb);have K5:=D (G5.out.on hb);have R5:=D (R4.out.on hb);clear hb B4 G2 G3 G5 R4;go_upto_region 8 with fail;refine Ni _ wr w.heap.size (w.heap.size+1) me _ _ _ _ eo n3 ec (eH (es.map iH) ((c,d),(g,h))) es (c,d,g,h,(po,pn,pc),fr,aD) _ _ _ _ _ _ _ _ _ _ _ _ _ _ _ _ _ _ _ _ _ _ _ _ _ _ _ _ _ _ _ _ _ _ _ _ _ _ _ _ _ _ _ _ _ _ _ _ _ _ _ _ _ _ _ _ _ _ _ _ _ _ _ _ _ _ _ _ _ _ _ _ _ _ _ _ _ _ _ _ _ _ _ _ _ _ _ _ _ _ _ _ _ _ _ _ _ _ _ _ _ _ _ _ _ _ _ _ _ _ _ _ K2.out (lY (p:=(po,pn,pc)) K3.out) R5.out (by have:=nH (es.map iH) ((c,d),(g,h)); rw [aL] at this; exact this) EL.out ?_;intro xw v97 v98 v99 v100 v101 v102 v103 v104 v105 v106 v107 v108 v109 v110 v111 hbx ho hbl hoth hblk;obtain⟨lW,lX,yD⟩:=(aN ho).len;obtain⟨tl,htl⟩:∃ n,n=(es.take (eH (es.map iH) ((c,d),(g,h)))++[(c,d,g,h,(po,pn,pc),fr,aD)]++es.drop (eH (es.map iH) ((c,d),(g,h)))).length:=⟨_,rfl⟩;rw [<- htl] at yD;subst yD;have B6:=D (B5.out.trans (hbl _ (aJ _)));have M2:=hbx;have M3:=hoth _ _ _ (by omega) K3.out;have M5:=hoth _ _ _ (by omega) K5.out;have OE:=D (dG ho (show w.heap.size+3<=wr.heap.size by have:=K5.out.lt; omega));clear ho hbl hoth hblk htl hbx B5 K2 K3 K5 R5;go_upto_region 9 with fail;refine vW _ xw w.heap.size (w.heap.size+1) (w.heap.size+1+1) me no ao so lW oo nn nc n2 ac sn sc tl lX dL oc _ _ _ _ _ _ _ _ _ _ _ _ aD _ _ _ _ _ _ _ _ _ _ _ _ _ _ _ _ _ _ _ _ _ _ _ _ _ _ _ _ _ _ _ _ _ _ _ _ _ _ _ _ _ _ _ _ _ _ _ _ _ _ _ _ _ _ _ _ _ _ _ _ _ _ _ _ _ _ _ _ _ _ _ _ _ _ _ _ _ _ _ _ _ _ _ _ _ _ _ _ _ _ _ _ _ _ _ _ _ _ _ _ _ _ _ _ _ _ _ _ _ _ _ _ M2 M3 M5 (by omega) ?_;intro a9 x9 FU h49 h59 QU;subst QU;have FB:=D (dJ M5.drew (K L me) (J no nn nc) (J ao n2 ac) (J so sn sc) (J lW tl lX) (J oo dL oc));have BL:=D (dB (b:=w.heap.size+1+1) B6.out.drew (by omega) (K L me) (J no nn nc) (J ao n2 ac) (J so sn sc) (J lW tl lX) (J oo dL oc));have FE:=D (fE (dx OE.out ((aI xw.heap.size xw).drew)) (w.heap.size+1+1) (by omega) (K L me) (J no nn nc) (J ao n2 ac) (J so sn sc) (J lW tl lX) (J oo dL oc));clear OE M2 M3 M5 B6;simp only [Exit.then]
      apply_assumption
      go_wp2_with fail;obtain⟨v0,v1,v2,v3,v4,v5⟩:=FB.out.eZ;refine au (v:=.tuple #[aX #[K L me,J no nn nc,J ao n2 ac,J so sn sc,J lW tl lX,J oo dL oc],Y aD]) (by simp [results,aH,go_sem,h49,h59,v0,v1,v2,v3,v4,v5]) FU ?_;rw [LB.out];refine⟨⟨(lW,tl,lX),_,rfl,aU (dG FE.out (show w.heap.size<=w.heap.size+3 by omega)),?_⟩,BL.out⟩;rw [<- Vv.out];exact ((HR2.out.take _).append (.cons (HRZ.out _) .nil)).append (HR2.out.drop _)
     ·have LB:=D LD;clear LD;have f3:=F3.out;obtain⟨k0,k1,k2,k3,k4,k5,k6⟩:=f3.oq;have f36:=f3.fr 6;have QT:=f3.lt;clear f3;go_upto_region 5 with fail;clear k0 k1 k2 k3 k4 k5 k6 f36 QT;have G3:=D (show dI _ _ #[K L c,K L d,K L g,K L h,J po pn pc,K L fr,Y X] _ from by simpa using dO (k:=6) F3.out (Y X));have G2:=D (show dI _ _ _ _ from (O w3 ⟨w.heap.size+1,6,U⟩ (Y X) _ (show w.heap.size≠w.heap.size+1 by omega)).trans F2.out);have G5:=D (show dI _ _ _ _ from (O w3 ⟨w.heap.size+1,6,U⟩ (Y X) _ (show w.heap.size+1+1≠w.heap.size+1 by omega)).trans F5.out);have B4:=D (B3.out.setCell (p:=⟨w.heap.size+1,6,U⟩) (by show w.heap.size<=w.heap.size+1; omega) (Y X));clear B3 F2 F3 F5;generalize w3.setCell ⟨w.heap.size+1,6,U⟩ (Y X)=w4 at *;have R4:=D (HE.out.on B4.out)
      go_upto_block 0 with (fail)
      refine wh _ w4 w.heap.size (w.heap.size+1) me c d g h _ _ _ _ _ _ _ eo n3 ec es _ _ _ _ _ _ _ _ _ _ _ _ _ _ _ _ _ _ _ _ _ _ _ _ _ _ _ _ _ _ _ _ _ _ _ _ _ _ _ _ _ _ _ _ _ _ _ _ _ _ _ _ _ _ _ _ _ _ _ _ _ _ _ _ _ _ _ _ _ _ _ _ _ _ _ _ _ _ _ _ _ _ _ _ _ _ _ _ _ _ _ _ _ _ _ _ _ _ _ _ _ _ _ _ _ _ _ _ _ _ _ _ G2.out G3.out R4.out N3.out (by have:=EL.out; have:=N3.out; omega) ?_;intro wr v57 v58 v59 v60 v61 v62 v63 v64 v65 v66 v67 v68 v69 v70 v71 v72 v73 v74 v75 v76 v77 v78 v79 v80 v81 v82 v83 v84 v85 v86 v87 v88 v89 v90 v91 v92 v93 v94 v95 v96 hb;have B5:=D (B4.out.trans (hb.mono B4.out.size));have K2:=D (G2.out.on hb);have K3:=D (G3.out.on hb);have K5:=D (G5.out.on hb);have R5:=D (R4.out.on hb);clear hb B4 G2 G3 G5 R4;go_upto_region 8 with fail;refine Ni _ wr w.heap.size (w.heap.size+1) me _ _ _ _ eo n3 ec (eH (es.map iH) ((c,d),(g,h))) es (c,d,g,h,(po,pn,pc),fr,X) _ _ _ _ _ _ _ _ _ _ _ _ _ _ _ _ _ _ _ _ _ _ _ _ _ _ _ _ _ _ _ _ _ _ _ _ _ _ _ _ _ _ _ _ _ _ _ _ _ _ _ _ _ _ _ _ _ _ _ _ _ _ _ _ _ _ _ _ _ _ _ _ _ _ _ _ _ _ _ _ _ _ _ _ _ _ _ _ _ _ _ _ _ _ _ _ _ _ _ _ _ _ _ _ _ _ _ _ _ _ _ _ K2.out (lY (p:=(po,pn,pc)) K3.out) R5.out (by have:=nH (es.map iH) ((c,d),(g,h)); rw [aL] at this; exact this) EL.out ?_;intro xw v97 v98 v99 v100 v101 v102 v103 v104 v105 v106 v107 v108 v109 v110 v111 hbx ho hbl hoth hblk;obtain⟨lW,lX,yD⟩:=(aN ho).len;obtain⟨tl,htl⟩:∃ n,n=(es.take (eH (es.map iH) ((c,d),(g,h)))++[(c,d,g,h,(po,pn,pc),fr,X)]++es.drop (eH (es.map iH) ((c,d),(g,h)))).length:=⟨_,rfl⟩;rw [<- htl] at yD;subst yD;have B6:=D (B5.out.trans (hbl _ (aJ _)));have M2:=hbx;have M3:=hoth _ _ _ (by omega) K3.out;have M5:=hoth _ _ _ (by omega) K5.out;have OE:=D (dG ho (show w.heap.size+3<=wr.heap.size by have:=K5.out.lt; omega));clear ho hbl hoth hblk htl hbx B5 K2 K3 K5 R5;go_upto_region 9 with fail;refine vW _ xw w.heap.size (w.heap.size+1) (w.heap.size+1+1) me no ao so lW oo nn nc n2 ac sn sc tl lX dL oc _ _ _ _ _ _ _ _ _ _ _ _ X _ _ _ _ _ _ _ _ _ _ _ _ _ _ _ _ _ _ _ _ _ _ _ _ _ _ _ _ _ _ _ _ _ _ _ _ _ _ _ _ _ _ _ _ _ _ _ _ _ _ _ _ _ _ _ _ _ _ _ _ _ _ _ _ _ _ _ _ _ _ _ _ _ _ _ _ _ _ _ _ _ _ _ _ _ _ _ _ _ _ _ _ _ _ _ _ _ _ _ _ _ _ _ _ _ _ _ _ _ _ _ _ M2 M3 M5 (by omega) ?_;intro a9 x9 FU h49 h59 QU;subst QU;have FB:=D (dJ M5.drew (K L me) (J no nn nc) (J ao n2 ac) (J so sn sc) (J lW tl lX) (J oo dL oc));have BL:=D (dB (b:=w.heap.size+1+1) B6.out.drew (by omega) (K L me) (J no nn nc) (J ao n2 ac) (J so sn sc) (J lW tl lX) (J oo dL oc));have FE:=D (fE (dx OE.out ((aI xw.heap.size xw).drew)) (w.heap.size+1+1) (by omega) (K L me) (J no nn nc) (J ao n2 ac) (J so sn sc) (J lW tl lX) (J oo dL oc));clear OE M2 M3 M5 B6;simp only [Exit.then]
      apply_assumption
      go_wp2_with fail;obtain⟨v0,v1,v2,v3,v4,v5⟩:=FB.out.eZ;refine au (v:=.tuple #[aX #[K L me,J no nn nc,J ao n2 ac,J so sn sc,J lW tl lX,J oo dL oc],Y X]) (by simp [results,aH,go_sem,h49,h59,v0,v1,v2,v3,v4,v5]) FU ?_;rw [LB.out];refine⟨⟨(lW,tl,lX),_,rfl,aU (dG FE.out (show w.heap.size<=w.heap.size+3 by omega)),?_⟩,BL.out⟩;rw [<- Vv.out];exact ((HR2.out.take _).append (.cons (HRZ.out _) .nil)).append (HR2.out.drop _)
   ·cases f2
    ·have LD:=LC;rw [if_neg (by intro q; simp [q.2] at hf2)] at LD;clear LC;go_upto_region 2 with fail;refine wp_region_quiet_below (by kernel_rfl) (by kernel_rfl) ?_
     repeat (go_big_quiet_step (first | (with_reducible exact CE.out _ _)))
     refine wpQuiet_nil ?_;intro _ hw';obtain⟨⟨dq,osq⟩,hw''⟩:=hw';subst hw'';have Z6:=aC w1 dq osq;have B2:=D (B1.out.trans (Z6.mono B1.out.size));have Z2:=D (Y2.out.on Z6);have Z3:=D (Y3.out.on Z6);have Z5:=D (Y5.out.on Z6);clear Z6 B1 Y2 Y3 Y5 a0 a1 a2 a3 a4 a5 b0 b1 b2 b3 b4 b5 b6;generalize grow (aY w1 dq) osq=w2 at *;have p3b:=(PX.out w2 B2.out).2.2.2;have x_:=Z2.out;have y_:=Z3.out;obtain⟨x0,x1,x2,x3,x4,x5⟩:=x_.eZ;obtain⟨y0,y1,y2,y3,y4,y5,y6⟩:=y_.oq;clear x_ y_;obtain⟨g1,hg1⟩:∃ r,(par != -1)=r:=⟨_,rfl⟩;have GP:=D (show decide (par≠-1)=g1 by rw [<- hg1]; by_cases q:par=-1 <;> simp [q]);rw [GP.out] at LD;cases g1
     ·have LB:=D LD;clear LD CV;have B3:=D B2.out;have F2:=D Z2.out;have F3:=D Z3.out;have F5:=D Z5.out;clear B2 Z2 Z3 Z5;have f3:=F3.out;obtain⟨k0,k1,k2,k3,k4,k5,k6⟩:=f3.oq;have f36:=f3.fr 6;have QT:=f3.lt;clear f3;go_upto_region 5 with fail;clear k0 k1 k2 k3 k4 k5 k6 f36 QT;have G3:=D (show dI _ _ #[K L c,K L d,K L g,K L h,J po pn pc,K L fr,Y X] _ from by simpa using dO (k:=6) F3.out (Y X));have G2:=D (show dI _ _ _ _ from (O w2 ⟨w.heap.size+1,6,U⟩ (Y X) _ (show w.heap.size≠w.heap.size+1 by omega)).trans F2.out);have G5:=D (show dI _ _ _ _ from (O w2 ⟨w.heap.size+1,6,U⟩ (Y X) _ (show w.heap.size+1+1≠w.heap.size+1 by omega)).trans F5.out);have B4:=D (B3.out.setCell (p:=⟨w.heap.size+1,6,U⟩) (by show w.heap.size<=w.heap.size+1; omega) (Y X));clear B3 F2 F3 F5;generalize w2.setCell ⟨w.heap.size+1,6,U⟩ (Y X)=w4 at *;have R4:=D (HE.out.on B4.out)
      go_upto_block 0 with (fail)
      refine wh _ w4 w.heap.size (w.heap.size+1) me c d g h _ _ _ _ _ _ _ eo n3 ec es _ _ _ _ _ _ _ _ _ _ _ _ _ _ _ _ _ _ _ _ _ _ _ _ _ _ _ _ _ _ _ _ _ _ _ _ _ _ _ _ _ _ _ _ _ _ _ _ _ _ _ _ _ _ _ _ _ _ _ _ _ _ _ _ _ _ _ _ _ _ _ _ _ _ _ _ _ _ _ _ _ _ _ _ _ _ _ _ _ _ _ _ _ _ _ _ _ _ _ _ _ _ _ _ _ _ _ _ _ _ _ _ G2.out G3.out R4.out N3.out (by have:=EL.out; have:=N3.out; omega) ?_;intro wr v57 v58 v59 v60 v61 v62 v63 v64 v65 v66 v67 v68 v69 v70 v71 v72 v73 v74 v75 v76 v77 v78 v79 v80 v81 v82 v83 v84 v85 v86 v87 v88 v89 v90 v91 v92 v93 v94 v95 v96 hb;have B5:=D (B4.out.trans (hb.mono B4.out.size));have K2:=D (G2.out.on hb);have K3:=D (G3.out.on hb);have K5:=D (G5.out.on hb);have R5:=D (R4.out.on hb);clear hb B4 G2 G3 G5 R4;go_upto_region 8 with fail;refine Ni _ wr w.heap.size (w.heap.size+1) me _ _ _ _ eo n3 ec (eH (es.map iH) ((c,d),(g,h))) es (c,d,g,h,(po,pn,pc),fr,X) _ _ _ _ _ _ _ _ _ _ _ _ _ _ _ _ _ _ _ _ _ _ _ _ _ _ _ _ _ _ _ _ _ _ _ _ _ _ _ _ _ _ _ _ _ _ _ _ _ _ _ _ _ _ _ _ _ _ _ _ _ _ _ _ _ _ _ _ _ _ _ _ _ _ _ _ _ _ _ _ _ _ _ _ _ _ _ _ _ _ _ _ _ _ _ _ _ _ _ _ _ _ _ _ _ _ _ _ _ _ _ _ K2.out (lY (p:=(po,pn,pc)) K3.out) R5.out (by have:=nH (es.map iH) ((c,d),(g,h)); rw [aL] at this; exact this) EL.out ?_;intro xw v97 v98 v99 v100 v101 v102 v103 v104 v105 v106 v107 v108 v109 v110 v111 hbx ho hbl hoth hblk;obtain⟨lW,lX,yD⟩:=(aN ho).len;obtain⟨tl,htl⟩:∃ n,n=(es.take (eH (es.map iH) ((c,d),(g,h)))++[(c,d,g,h,(po,pn,pc),fr,X)]++es.drop (eH (es.map iH) ((c,d),(g,h)))).length:=⟨_,rfl⟩;rw [<- htl] at yD;subst yD;have B6:=D (B5.out.trans (hbl _ (aJ _)));have M2:=hbx;have M3:=hoth _ _ _ (by omega) K3.out;have M5:=hoth _ _ _ (by omega) K5.out;have OE:=D (dG ho (show w.heap.size+3<=wr.heap.size by have:=K5.out.lt; omega));clear ho hbl hoth hblk htl hbx B5 K2 K3 K5 R5;go_upto_region 9 with fail;refine vW _ xw w.heap.size (w.heap.size+1) (w.heap.size+1+1) me no ao so lW oo nn nc n2 ac sn sc tl lX dL oc _ _ _ _ _ _ _ _ _ _ _ _ X _ _ _ _ _ _ _ _ _ _ _ _ _ _ _ _ _ _ _ _ _ _ _ _ _ _ _ _ _ _ _ _ _ _ _ _ _ _ _ _ _ _ _ _ _ _ _ _ _ _ _ _ _ _ _ _ _ _ _ _ _ _ _ _ _ _ _ _ _ _ _ _ _ _ _ _ _ _ _ _ _ _ _ _ _ _ _ _ _ _ _ _ _ _ _ _ _ _ _ _ _ _ _ _ _ _ _ _ _ _ _ _ M2 M3 M5 (by omega) ?_;intro a9 x9 FU h49 h59 QU;subst QU;have FB:=D (dJ M5.drew (K L me) (J no nn nc) (J ao n2 ac) (J so sn sc) (J lW tl lX) (J oo dL oc));have BL:=D (dB (b:=w.heap.size+1+1) B6.out.drew (by omega) (K L me) (J no nn nc) (J ao n2 ac) (J so sn sc) (J lW tl lX) (J oo dL oc));have FE:=D (fE (dx OE.out ((aI xw.heap.size xw).drew)) (w.heap.size+1+1) (by omega) (K L me) (J no nn nc) (J ao n2 ac) (J so sn sc) (J lW tl lX) (J oo dL oc));clear OE M2 M3 M5 B6;simp only [Exit.then]
      apply_assumption
      go_wp2_with fail;obtain⟨v0,v1,v2,v3,v4,v5⟩:=FB.out.eZ;refine au (v:=.tuple #[aX #[K L me,J no nn nc,J ao n2 ac,J so sn sc,J lW tl lX,J oo dL oc],Y X]) (by simp [results,aH,go_sem,h49,h59,v0,v1,v2,v3,v4,v5]) FU ?_;rw [LB.out];refine⟨⟨(lW,tl,lX),_,rfl,aU (dG FE.out (show w.heap.size<=w.heap.size+3 by omega)),?_⟩,BL.out⟩;rw [<- Vv.out];exact ((HR2.out.take _).append (.cons (HRZ.out _) .nil)).append (HR2.out.drop _)
     ·have CW:=D (CV.out w2 B2.out);obtain⟨cv,hcv⟩:∃ r,eU b.ent (c,d) p'=r:=⟨_,rfl⟩;rw [hcv] at CW LD;clear CV hcv;go_wp2_with fail;refine CW.out.mono ?_;rintro e3 w3 ⟨rfl,hb⟩;have B3:=D (B2.out.trans (hb.mono B2.out.size));have F2:=D (Z2.out.on hb);have F3:=D (Z3.out.on hb);have F5:=D (Z5.out.on hb);clear hb CW B2 Z2 Z3 Z5 x0 x1 x2 x3 x4 x5 y0 y1 y2 y3 y4 y5 y6 p3b;cases cv
      ·have LB:=D LD;clear LD;have f3:=F3.out;obtain⟨k0,k1,k2,k3,k4,k5,k6⟩:=f3.oq;have f36:=f3.fr 6;have QT:=f3.lt;clear f3;go_upto_region 5 with fail;clear k0 k1 k2 k3 k4 k5 k6 f36 QT;have G3:=D (show dI _ _ #[K L c,K L d,K L g,K L h,J po pn pc,K L fr,Y aD] _ from by simpa using dO (k:=6) F3.out (Y aD));have G2:=D (show dI _ _ _ _ from (O w3 ⟨w.heap.size+1,6,U⟩ (Y aD) _ (show w.heap.size≠w.heap.size+1 by omega)).trans F2.out);have G5:=D (show dI _ _ _ _ from (O w3 ⟨w.heap.size+1,6,U⟩ (Y aD) _ (show w.heap.size+1+1≠w.heap.size+1 by omega)).trans F5.out);have B4:=D (B3.out.setCell (p:=⟨w.heap.size+1,6,U⟩) (by show w.heap.size<=w.heap.size+1; omega) (Y aD));clear B3 F2 F3 F5;generalize w3.setCell ⟨w.heap.size+1,6,U⟩ (Y aD)=w4 at *;have R4:=D (HE.out.on B4.out)
       go_upto_block 0 with (fail)
       refine wh _ w4 w.heap.size (w.heap.size+1) me c d g h _ _ _ _ _ _ _ eo n3 ec es _ _ _ _ _ _ _ _ _ _ _ _ _ _ _ _ _ _ _ _ _ _ _ _ _ _ _ _ _ _ _ _ _ _ _ _ _ _ _ _ _ _ _ _ _ _ _ _ _ _ _ _ _ _ _ _ _ _ _ _ _ _ _ _ _ _ _ _ _ _ _ _ _ _ _ _ _ _ _ _ _ _ _ _ _ _ _ _ _ _ _ _ _ _ _ _ _ _ _ _ _ _ _ _ _ _ _ _ _ _ _ _ G2.out G3.out R4.out N3.out (by have:=EL.out; have:=N3.out; omega) ?_;intro wr v57 v58 v59 v60 v61 v62 v63 v64 v65 v66 v67 v68 v69 v70 v71 v72 v73 v74 v75 v76 v77 v78 v79 v80 v81 v82 v83 v84 v85 v86 v87 v88 v89 v90 v91 v92 v93 v94 v95 v96 hb;have B5:=D (B4.out.trans (hb.mono B4.out.size));have K2:=D (G2.out.on hb);have K3:=D (G3.out.on hb);have K5:=D (G5.out.on hb);have R5:=D (R4.out.on hb);clear hb B4 G2 G3 G5 R4;go_upto_region 8 with fail;refine Ni _ wr w.heap.size (w.heap.size+1) me _ _ _ _ eo n3 ec (eH (es.map iH) ((c,d),(g,h))) es (c,d,g,h,(po,pn,pc),fr,aD) _ _ _ _ _ _ _ _ _ _ _ _ _ _ _ _ _ _ _ _ _ _ _ _ _ _ _ _ _ _ _ _ _ _ _ _ _ _ _ _ _ _ _ _ _ _ _ _ _ _ _ _ _ _ _ _ _ _ _ _ _ _ _ _ _ _ _ _ _ _ _ _ _ _ _ _ _ _ _ _ _ _ _ _ _ _ _ _ _ _ _ _ _ _ _ _ _ _ _ _ _ _ _ _ _ _ _ _ _ _ _ _ K2.out (lY (p:=(po,pn,pc)) K3.out) R5.out (by have:=nH (es.map iH) ((c,d),(g,h)); rw [aL] at this; exact this) EL.out ?_;intro xw v97 v98 v99 v100 v101 v102 v103 v104 v105 v106 v107 v108 v109 v110 v111 hbx ho hbl hoth hblk;obtain⟨lW,lX,yD⟩:=(aN ho).len;obtain⟨tl,htl⟩:∃ n,n=(es.take (eH (es.map iH) ((c,d),(g,h)))++[(c,d,g,h,(po,pn,pc),fr,aD)]++es.drop (eH (es.map iH) ((c,d),(g,h)))).length:=⟨_,rfl⟩;rw [<- htl] at yD;subst yD;have B6:=D (B5.out.trans (hbl _ (aJ _)));have M2:=hbx;have M3:=hoth _ _ _ (by omega) K3.out;have M5:=hoth _ _ _ (by omega) K5.out;have OE:=D (dG ho (show w.heap.size+3<=wr.heap.size by have:=K5.out.lt; omega));clear ho hbl hoth hblk htl hbx B5 K2 K3 K5 R5;go_upto_region 9 with fail;refine vW _ xw w.heap.size (w.heap.size+1) (w.heap.size+1+1) me no ao so lW oo nn nc n2 ac sn sc tl lX dL oc _ _ _ _ _ _ _ _ _ _ _ _ aD _ _ _ _ _ _ _ _ _ _ _ _ _ _ _ _ _ _ _ _ _ _ _ _ _ _ _ _ _ _ _ _ _ _ _ _ _ _ _ _ _ _ _ _ _ _ _ _ _ _ _ _ _ _ _ _ _ _ _ _ _ _ _ _ _ _ _ _ _ _ _ _ _ _ _ _ _ _ _ _ _ _ _ _ _ _ _ _ _ _ _ _ _ _ _ _ _ _ _ _ _ _ _ _ _ _ _ _ _ _ _ _ M2 M3 M5 (by omega) ?_;intro a9 x9 FU h49 h59 QU;subst QU;have FB:=D (dJ M5.drew (K L me) (J no nn nc) (J ao n2 ac) (J so sn sc) (J lW tl lX) (J oo dL oc));have BL:=D (dB (b:=w.heap.size+1+1) B6.out.drew (by omega) (K L me) (J no nn nc) (J ao n2 ac) (J so sn sc) (J lW tl lX) (J oo dL oc));have FE:=D (fE (dx OE.out ((aI xw.heap.size xw).drew)) (w.heap.size+1+1) (by omega) (K L me) (J no nn nc) (J ao n2 ac) (J so sn sc) (J lW tl lX) (J oo dL oc));clear OE M2 M3 M5 B6;simp only [Exit.then]
       apply_assumption
       go_wp2_with fail;obtain⟨v0,v1,v2,v3,v4,v5⟩:=FB.out.eZ;refine au (v:=.tuple #[aX #[K L me,J no nn nc,J ao n2 ac,J so sn sc,J lW tl lX,J oo dL oc],Y aD]) (by simp [results,aH,go_sem,h49,h59,v0,v1,v2,v3,v4,v5]) FU ?_;rw [LB.out];refine⟨⟨(lW,tl,lX),_,rfl,aU (dG FE.out (show w.heap.size<=w.heap.size+3 by omega)),?_⟩,BL.out⟩;rw [<- Vv.out];exact ((HR2.out.take _).append (.cons (HRZ.out _) .nil)).append (HR2.out.drop _)
      ·have LB:=D LD;clear LD;have f3:=F3.out;obtain⟨k0,k1,k2,k3,k4,k5,k6⟩:=f3.oq;have f36:=f3.fr 6;have QT:=f3.lt;clear f3;go_upto_region 5 with fail;clear k0 k1 k2 k3 k4 k5 k6 f36 QT;have G3:=D (show dI _ _ #[K L c,K L d,K L g,K L h,J po pn pc,K L fr,Y X] _ from by simpa using dO (k:=6) F3.out (Y X));have G2:=D (show dI _ _ _ _ from (O w3 ⟨w.heap.size+1,6,U⟩ (Y X) _ (show w.heap.size≠w.heap.size+1 by omega)).trans F2.out);have G5:=D (show dI _ _ _ _ from (O w3 ⟨w.heap.size+1,6,U⟩ (Y X) _ (show w.heap.size+1+1≠w.heap.size+1 by omega)).trans F5.out);have B4:=D (B3.out.setCell (p:=⟨w.heap.size+1,6,U⟩) (by show w.heap.size<=w.heap.size+1; omega) (Y X));clear B3 F2 F3 F5;generalize w3.setCell ⟨w.heap.size+1,6,U⟩ (Y X)=w4 at *;have R4:=D (HE.out.on B4.out)
       go_upto_block 0 with (fail)
       refine wh _ w4 w.heap.size (w.heap.size+1) me c d g h _ _ _ _ _ _ _ eo n3 ec es _ _ _ _ _ _ _ _ _ _ _ _ _ _ _ _ _ _ _ _ _ _ _ _ _ _ _ _ _ _ _ _ _ _ _ _ _ _ _ _ _ _ _ _ _ _ _ _ _ _ _ _ _ _ _ _ _ _ _ _ _ _ _ _ _ _ _ _ _ _ _ _ _ _ _ _ _ _ _ _ _ _ _ _ _ _ _ _ _ _ _ _ _ _ _ _ _ _ _ _ _ _ _ _ _ _ _ _ _ _ _ _ G2.out G3.out R4.out N3.out (by have:=EL.out; have:=N3.out; omega) ?_;intro wr v57 v58 v59 v60 v61 v62 v63 v64 v65 v66 v67 v68 v69 v70 v71 v72 v73 v74 v75 v76 v77 v78 v79 v80 v81 v82 v83 v84 v85 v86 v87 v88 v89 v90 v91 v92 v93 v94 v95 v96 hb;have B5:=D (B4.out.trans (hb.mono B4.out.size));have K2:=D (G2.out.on hb);have K3:=D (G3.out.on hb);have K5:=D (G5.out.on hb);have R5:=D (R4.out.on hb);clear hb B4 G2 G3 G5 R4;go_upto_region 8 with fail;refine Ni _ wr w.heap.size (w.heap.size+1) me _ _ _ _ eo n3 ec (eH (es.map iH) ((c,d),(g,h))) es (c,d,g,h,(po,pn,pc),fr,X) _ _ _ _ _ _ _ _ _ _ _ _ _ _ _ _ _ _ _ _ _ _ _ _ _ _ _ _ _ _ _ _ _ _ _ _ _ _ _ _ _ _ _ _ _ _ _ _ _ _ _ _ _ _ _ _ _ _ _ _ _ _ _ _ _ _ _ _ _ _ _ _ _ _ _ _ _ _ _ _ _ _ _ _ _ _ _ _ _ _ _ _ _ _ _ _ _ _ _ _ _ _ _ _ _ _ _ _ _ _ _ _ K2.out (lY (p:=(po,pn,pc)) K3.out) R5.out (by have:=nH (es.map iH) ((c,d),(g,h)); rw [aL] at this; exact this) EL.out ?_;intro xw v97 v98 v99 v100 v101 v102 v103 v104 v105 v106 v107 v108 v109 v110 v111 hbx ho hbl hoth hblk;obtain⟨lW,lX,yD⟩:=(aN ho).len;obtain⟨tl,htl⟩:∃ n,n=(es.take (eH (es.map iH) ((c,d),(g,h)))++[(c,d,g,h,(po,pn,pc),fr,X)]++es.drop (eH (es.map iH) ((c,d),(g,h)))).length:=⟨_,rfl⟩;rw [<- htl] at yD;subst yD;have B6:=D (B5.out.trans (hbl _ (aJ _)));have M2:=hbx;have M3:=hoth _ _ _ (by omega) K3.out;have M5:=hoth _ _ _ (by omega) K5.out;have OE:=D (dG ho (show w.heap.size+3<=wr.heap.size by have:=K5.out.lt; omega));clear ho hbl hoth hblk htl hbx B5 K2 K3 K5 R5;go_upto_region 9 with fail;refine vW _ xw w.heap.size (w.heap.size+1) (w.heap.size+1+1) me no ao so lW oo nn nc n2 ac sn sc tl lX dL oc _ _ _ _ _ _ _ _ _ _ _ _ X _ _ _ _ _ _ _ _ _ _ _ _ _ _ _ _ _ _ _ _ _ _ _ _ _ _ _ _ _ _ _ _ _ _ _ _ _ _ _ _ _ _ _ _ _ _ _ _ _ _ _ _ _ _ _ _ _ _ _ _ _ _ _ _ _ _ _ _ _ _ _ _ _ _ _ _ _ _ _ _ _ _ _ _ _ _ _ _ _ _ _ _ _ _ _ _ _ _ _ _ _ _ _ _ _ _ _ _ _ _ _ _ M2 M3 M5 (by omega) ?_;intro a9 x9 FU h49 h59 QU;subst QU;have FB:=D (dJ M5.drew (K L me) (J no nn nc) (J ao n2 ac) (J so sn sc) (J lW tl lX) (J oo dL oc));have BL:=D (dB (b:=w.heap.size+1+1) B6.out.drew (by omega) (K L me) (J no nn nc) (J ao n2 ac) (J so sn sc) (J lW tl lX) (J oo dL oc));have FE:=D (fE (dx OE.out ((aI xw.heap.size xw).drew)) (w.heap.size+1+1) (by omega) (K L me) (J no nn nc) (J ao n2 ac) (J so sn sc) (J lW tl lX) (J oo dL oc));clear OE M2 M3 M5 B6;simp only [Exit.then]
       apply_assumption
       go_wp2_with fail;obtain⟨v0,v1,v2,v3,v4,v5⟩:=FB.out.eZ;refine au (v:=.tuple #[aX #[K L me,J no nn nc,J ao n2 ac,J so sn sc,J lW tl lX,J oo dL oc],Y X]) (by simp [results,aH,go_sem,h49,h59,v0,v1,v2,v3,v4,v5]) FU ?_;rw [LB.out];refine⟨⟨(lW,tl,lX),_,rfl,aU (dG FE.out (show w.heap.size<=w.heap.size+3 by omega)),?_⟩,BL.out⟩;rw [<- Vv.out];exact ((HR2.out.take _).append (.cons (HRZ.out _) .nil)).append (HR2.out.drop _)
    ·have LB:=D (LC.trans (if_pos (by simpa using And.intro hf1 hf2)));clear LC;go_upto_region 2 with fail;refine wp_region_quiet_below (by kernel_rfl) (by kernel_rfl) ?_
     repeat (go_big_quiet_step (first | (with_reducible exact CE.out _ _)))
     refine wpQuiet_nil ?_;intro _ hw';obtain⟨⟨dq,osq⟩,hw''⟩:=hw';subst hw'';have Z6:=aC w1 dq osq;have B2:=D (B1.out.trans (Z6.mono B1.out.size));have Z2:=D (Y2.out.on Z6);have Z3:=D (Y3.out.on Z6);have Z5:=D (Y5.out.on Z6);clear Z6 B1 Y2 Y3 Y5 a0 a1 a2 a3 a4 a5 b0 b1 b2 b3 b4 b5 b6;generalize grow (aY w1 dq) osq=w2 at *;have FB:=D (dJ Z5.out (K L me) (J no nn nc) (J ao n2 ac) (J so sn sc) (J eo n3 ec) (J oo dL oc));have BL:=D (dB (b:=w.heap.size+1+1) B2.out (by omega) (K L me) (J no nn nc) (J ao n2 ac) (J so sn sc) (J eo n3 ec) (J oo dL oc));have xQ:=Z2.out;have q9:=Z5.out;obtain⟨x0,x1,x2,x3,x4,x5⟩:=xQ.eZ;obtain⟨r0,r1,r2,r3,r4,r5⟩:=q9.eZ;obtain⟨t0,t1,t2,t3,t4,t5⟩:=q9.ku;have zz:=q9.lt;clear xQ q9;go_wp2_with fail;obtain⟨v0,v1,v2,v3,v4,v5⟩:=FB.out.eZ;refine au (v:=.tuple #[aX #[K L me,J no nn nc,J ao n2 ac,J so sn sc,J eo n3 ec,J oo dL oc],Y X]) (by simp [results,aH,go_sem,v0,v1,v2,v3,v4,v5]) rfl ?_;rw [LB.out];exact⟨⟨(eo,n3,ec),es,rfl,bM ⟨rfl,rfl,rfl⟩,HR2.out⟩,BL.out⟩
  ·have LB:=D (show gP b ⟨(c,d),(g,h),p',fr,XO⟩=(b,X) from (LA.out _ he).trans (if_pos (by omega)));have hge:decide ((0:Int)<=(j:Int))=aD:=decide_eq_true (by omega);rw [he] at CE;clear LA he;go_upto_region 2 with fail;refine wp_region_quiet_below (by kernel_rfl) (by kernel_rfl) ?_
   repeat (go_big_quiet_step (first | (with_reducible exact CE.out _ _)))
   refine wpQuiet_nil ?_;intro _ hw';obtain⟨⟨dq,osq⟩,hw''⟩:=hw';subst hw'';have Z6:=aC w1 dq osq;have B2:=D (B1.out.trans (Z6.mono B1.out.size));have Z2:=D (Y2.out.on Z6);have Z3:=D (Y3.out.on Z6);have Z5:=D (Y5.out.on Z6);clear Z6 B1 Y2 Y3 Y5 a0 a1 a2 a3 a4 a5 b0 b1 b2 b3 b4 b5 b6;generalize grow (aY w1 dq) osq=w2 at *;have FB:=D (dJ Z5.out (K L me) (J no nn nc) (J ao n2 ac) (J so sn sc) (J eo n3 ec) (J oo dL oc));have BL:=D (dB (b:=w.heap.size+1+1) B2.out (by omega) (K L me) (J no nn nc) (J ao n2 ac) (J so sn sc) (J eo n3 ec) (J oo dL oc));have xQ:=Z2.out;have q9:=Z5.out;obtain⟨x0,x1,x2,x3,x4,x5⟩:=xQ.eZ;obtain⟨r0,r1,r2,r3,r4,r5⟩:=q9.eZ;obtain⟨t0,t1,t2,t3,t4,t5⟩:=q9.ku;have zz:=q9.lt;clear xQ q9;go_wp2_with fail;obtain⟨v0,v1,v2,v3,v4,v5⟩:=FB.out.eZ;refine au (v:=.tuple #[aX #[K L me,J no nn nc,J ao n2 ac,J so sn sc,J eo n3 ec,J oo dL oc],Y X]) (by simp [results,aH,go_sem,v0,v1,v2,v3,v4,v5]) rfl ?_;rw [LB.out];exact⟨⟨(eo,n3,ec),es,rfl,bM ⟨rfl,rfl,rfl⟩,HR2.out⟩,BL.out⟩
theorem jm (b:Br) (e:En):(gP b e).1.me=b.me/\(gP b e).1.near=b.near/\(gP b e).1.dM=b.dM/\(gP b e).1.seen=b.seen/\(gP b e).1.own=b.own:=by
 unfold gP
 split
 ·exact⟨rfl,rfl,rfl,rfl,rfl⟩
 ·split
  ·exact⟨rfl,rfl,rfl,rfl,rfl⟩
  ·split
   ·exact⟨rfl,rfl,rfl,rfl,rfl⟩
   ·split <;> exact⟨rfl,rfl,rfl,rfl,rfl⟩
theorem QV (b:Br) (nv av sv ev ov:Sl) (z:iF) (e:En) (w:aQ) (h_:iA w b nv av sv ev ov) (hz:je w z e) (l2:b.dM.length<=900) (l3:b.ent.length<=900) (hok:∀ e∈b.ent,dQ e.p) (hop:dQ e.p) :
  bQ ay 57 #[nT b.me nv av sv ev ov,qZ z] w fun e' w'=>(∃ ev':Sl,e'=aT (.tuple #[nT b.me nv av sv ev' ov,Y (gP b e).2])/\iA w' (gP b e).1 nv av sv ev' ov)/\Below w.heap.size w w':=by
 obtain⟨es,he1,he2⟩:=h_.ent;refine (sG b nv av sv ev ov z e w es (je w) h_ he1 he2 he2 (fun u=>⟨hz.1,hz.2.1,hz.2.2.1,rfl,hz.2.2.2.2⟩) hz l2 l3 hok hop).mono ?_;rintro e1 w1 ⟨⟨ev',xs,rfl,hr,hx⟩,hb⟩;refine⟨⟨ev',rfl,?_⟩,hb⟩;have hI:=h_.on hb;obtain⟨_,a2,a3,a4,a5⟩:=jm b e;refine⟨by rw [a2]; exact hI.near,by rw [a3]; exact hI.dM,by rw [a4]; exact hI.seen,⟨xs,?_,hx.mono fun _ _ h=>h.on hb⟩,by rw [a5]; exact hI.own⟩;rcases hr with⟨h1,h2,_⟩|hr
 ·rw [h1,h2];exact he1.on hb
 ·exact aN hr
end Bk
namespace Bk
open Go.RowKit Go.Sort Rw YtkcfgbddlpomgaaGreat.Nm Pr
open Av
def Vw (e:En):En:={ e with up:=aD }
def ig (t:Id) (s:List En×List En) (k:Nat):List En×List En:=match s.1[k]? with
 | none=>s
 | some e=>if e.tree=t/\e.up=X/\eU s.1 t e.p=X then (s.1.set k (Vw e),s.2++[Vw e]) else s
def iL (t:Id) (m:List En) (k:Nat):List En×List En:=(bZ k).foldl (ig t) (m,[])
def takeB (b:Br) (t s:Id) (f:Int):Br×List En×Bool:=match b.ent[(iK (b.ent.map fu) (t,s)).toNat]? with
 | none=>(b,[],X)
 | some e=>if iK (b.ent.map fu) (t,s)=-1 then (b,[],X) else if e.from_≠f then (b,[],X) else
  if e.up=X then ({ b with ent:=cutAt b.ent (iK (b.ent.map fu) (t,s)).toNat },[],X) else
  ({ b with ent:=(iL t (cutAt b.ent (iK (b.ent.map fu) (t,s)).toNat) (cutAt b.ent (iK (b.ent.map fu) (t,s)).toNat).length).1 },(iL t (cutAt b.ent (iK (b.ent.map fu) (t,s)).toNat) (cutAt b.ent (iK (b.ent.map fu) (t,s)).toNat).length).2,aD)
theorem lZ (t:Id) (m:List En) (k:Nat):iL t m (k+1)=ig t (iL t m k) k:=by
 simp [iL,List.range_succ]
theorem DT (t:Id) (s:List En×List En) (k:Nat):(ig t s k).1.length=s.1.length/\(ig t s k).2.length<=s.2.length+1:=by
 unfold ig
 split
 ·exact⟨rfl,bY _⟩
 ·split
  ·simp
  ·exact⟨rfl,bY _⟩
theorem nI (t:Id) (m:List En):∀ k,(iL t m k).1.length=m.length/\(iL t m k).2.length<=k
 | 0=>⟨rfl,aJ _⟩
 | k+1=>by
  rw [lZ];have h1:=nI t m k;have h2:=DT t (iL t m k) k;omega
theorem FV {t:Id} {m:List En} (P:List C5->Prop) (h:∀ e∈m,P e.p):∀ k,(∀ e∈(iL t m k).1,P e.p)/\∀ e∈(iL t m k).2,P e.p
 | 0=>⟨h,fun e he=>by simp [iL] at he⟩
 | k+1=>by
  have ih:=FV (t:=t) P h k;rw [lZ];unfold ig
  split
  ·exact ih
  ·rename_i e he
   split
   ·refine⟨fun x hx=>?_,fun x hx=>?_⟩
    ·rcases bC hx with h1|h1
     ·exact ih.1 x h1
     ·rw [h1];exact ih.1 e (aG he)
    ·rcases aW.1 hx with h1|h1
     ·exact ih.2 x h1
     ·rw [bN.1 h1];exact ih.1 e (aG he)
   ·exact ih
theorem FX:∀ (l:List iF) (k:Nat) (x:iF),l[k]?=aj x->flat EN (l.set k (x.1,x.2.1,x.2.2.1,x.2.2.2.1,x.2.2.2.2.1,x.2.2.2.2.2.1,aD))=(flat EN l).set (k * 7+6) (Y aD)
 | [],k,x,h=>by simp at h
 | y::r,0,x,h=>by
  obtain rfl:y=x:=by simpa using h
  rfl
 | y::r,k+1,x,h=>by
  have ih:=FX r k x (by simpa using h);rw [show (k+1) * 7+6=(k * 7+6)+1+1+1+1+1+1+1 by omega];simp only [bf,flat,EN,iG,List.cons_append,List.nil_append] at ih ⊢;rw [ih]
theorem VX {w:aQ} {B g n cap k:Nat} {l:List iF} {x:iF} (h:jA w B (J (aj ⟨g,0,U⟩) n cap) l) (hk:l[k]?=aj x) :
  jA (w.setCell ⟨g,k * 7+6,U⟩ (Y aD)) B (J (aj ⟨g,0,U⟩) n cap) (l.set k (x.1,x.2.1,x.2.2.1,x.2.2.2.1,x.2.2.2.2.1,x.2.2.2.2.2.1,aD))/\w.cell? ⟨g,k * 7+6,U⟩=aj (Y x.2.2.2.2.2.2)/\w.frozen? ⟨g,k * 7+6,U⟩=X:=by
 have c:=jW nR h hk w (aI _ _);have c6:=c 6 _ rfl;simp [aO,EN] at c6;obtain⟨cur,hb⟩:=jR h;obtain⟨ao,c',hv⟩:=(aN h).len;obtain⟨_,rfl,_⟩:aj ⟨g,0,U⟩=ao/\n=l.length/\cap=c':=by simpa using hv
 have h:w.ownsRow B 68 7 (J (aj ⟨g,0,U⟩) l.length cap) l.length (flat EN l):=h;have t1:=(h.stored (k * 7+6) (Y aD)).1;refine⟨?_,c6,hb.fr _⟩;have e:=FX l k x hk;show World.ownsRow _ B 68 7 _ (List.length _) (flat EN _);rw [e,List.length_set];exact t1
theorem eu.set2 {α β:Type} {R:α->β->Prop}:∀ {l:List α} {m:List β} (k:Nat) {a:α} {b:β},eu R l m->R a b->eu R (l.set k a) (m.set k b)
 | _,_,_,_,_,.nil,_=>.nil
 | _,_,0,_,_,.cons _ t,hr=>.cons hr t
 | _,_,k+1,_,_,.cons x t,hr=>.cons x (eu.set2 k t hr)
theorem FY (w:aQ) (c d e f:Array aV) (r s t u:TypeId):Below w.heap.size w ((((w.alloc (ah c r)).alloc (ah d s)).alloc (ah e t)).alloc (ah f u))/\dI ((((w.alloc (ah c r)).alloc (ah d s)).alloc (ah e t)).alloc (ah f u)) w.heap.size c r/\dI ((((w.alloc (ah c r)).alloc (ah d s)).alloc (ah e t)).alloc (ah f u)) (w.heap.size+1) d s/\dI ((((w.alloc (ah c r)).alloc (ah d s)).alloc (ah e t)).alloc (ah f u)) (w.heap.size+1+1) e t/\dI ((((w.alloc (ah c r)).alloc (ah d s)).alloc (ah e t)).alloc (ah f u)) (w.heap.size+1+1+1) f u:=by
 obtain⟨h0,h1,h2,h3⟩:=gM w c d e r s t;refine⟨h0.alloc h0.size _,h1.more _,h2.more _,h3.more _,?_⟩;have h:=dK (((w.alloc (ah c r)).alloc (ah d s)).alloc (ah e t)) f u;have e2:(((w.alloc (ah c r)).alloc (ah d s)).alloc (ah e t)).heap.size=w.heap.size+1+1+1:=by simp
 rw [e2] at h;exact h
theorem Bv (l:List Id) (x:Id) (h:x∈l):∃ k:Nat,fD l x=k/\l[k]?=aj x:=by
 induction l with
 | nil=>simp at h
 | cons a r ih =>
  by_cases e:a=x
  ·subst e;exact⟨0,by simp [fD],rfl⟩
  ·have hr:x∈r:=by
    rcases bV.1 h with h1|h1
    ·exact absurd h1.symm e
    ·exact h1
   obtain⟨k,h1,h2⟩:=ih hr;refine⟨k+1,?_,by simpa using h2⟩;rw [fD,if_neg e,h1,if_neg (by omega)];omega
theorem wm {t:Id} {m:List En} (R:En->Prop) (hR:∀ e,e.tree=t->R e->R (Vw e)) (h:∀ e∈m,R e):∀ k,(∀ e∈(iL t m k).1,R e)/\∀ e∈(iL t m k).2,R e
 | 0=>⟨h,fun e he=>by simp [iL] at he⟩
 | k+1=>by
  have ih:=wm (t:=t) R hR h k;rw [lZ];unfold ig
  split
  ·exact ih
  ·rename_i e he
   split
   ·rename_i hcond
    have hu:=hR e hcond.1 (ih.1 e (aG he));refine⟨fun x hx=>?_,fun x hx=>?_⟩
    ·rcases bC hx with h1|h1
     ·exact ih.1 x h1
     ·rw [h1];exact hu
    ·rcases aW.1 hx with h1|h1
     ·exact ih.2 x h1
     ·rw [bN.1 h1];exact hu
   ·exact ih
theorem qN {α:Type} {l:List α} {k:Nat} {x:α} (h:x∈cutAt l k):x∈l:=by
 rcases aW.1 h with h|h
 ·exact bI h
 ·exact bJ h
theorem NH (b:Br) (nv av sv ev ov:Sl) (x s:Id) (f:Int) (w:aQ) (h:iA w b nv av sv ev ov) (l3:b.ent.length<=900) (hok:∀ e∈b.ent,dQ e.p) :
  bQ ay 93 #[nT b.me nv av sv ev ov,lV x,lV s,K L f] w fun e w'=>(∃ ev' lo:Sl,e=aT (.tuple #[nT b.me nv av sv ev' ov,dP lo,Y (takeB b x s f).2.2])/\iA w' (takeB b x s f).1 nv av sv ev' ov/\∃ xs,kC w' (dP lo) xs/\eu (je w') xs (takeB b x s f).2.1)/\Below w.heap.size w w':=by
 obtain⟨no,nn,nc⟩:=nv;obtain⟨ao,an,ac⟩:=av;obtain⟨so,sn,sc⟩:=sv;obtain⟨eo,en,ec⟩:=ev;obtain⟨oo,dL,oc⟩:=ov;obtain⟨c,d⟩:=x;obtain⟨c2,d2⟩:=s;obtain⟨es,he1,he2⟩:=h.ent;have Vv:=D (keys_eq he2);have EL:=D (show es.length<=900 by rw [he2.len]; exact l3);have HE2:=D he2;have OK:=D hok;obtain⟨q1,q2,hq⟩:=he1.len;obtain⟨rfl,rfl,rfl⟩:eo=q1/\en=es.length/\ec=q2:=by
  have:J eo en ec=J q1 es.length q2:=hq;simpa using this
 have EY:=yU b.me (J no nn nc) (J ao an ac) (J so sn sc) (J oo dL oc) (eo,es.length,ec) es (c,d) (c2,d2);have HH:=D h;obtain⟨h0,h1,h2,h3,h4⟩:=FY w #[K L b.me,J no nn nc,J ao an ac,J so sn sc,J eo es.length ec,J oo dL oc] #[K L c,K L d] #[K L c2,K L d2] #[K L 0,J U 0 0,J U 0 0,J U 0 0,J U 0 0,J U 0 0] 33 38 38 33;obtain⟨n3,Qh⟩:∃ n,n=es.length:=⟨_,rfl⟩;simp only [<- Qh] at h0 h1 h2 h3 h4 he1 HH EY ⊢;obtain⟨me,hme⟩:∃ me,me=b.me:=⟨_,rfl⟩;simp only [<- hme] at h0 h1 h2 h3 h4 EY ⊢;have N3:=D Qh;have gD:=D (h0);have wo:=D (h1);have kM:=D (h2);have lC:=D (h3);have Az:=D (h4);have NI:=D (he1.on h0);have HEW:=D he1;clear h0 h1 h2 h3 h4 he1 he2 h hq Qh l3 hme hok;go_enter Tryz.func93,Tryz.ntmps93;go_upto_region 1 with fail;generalize ((((w.alloc (ah #[K L me,J no nn nc,J ao an ac,J so sn sc,J eo n3 ec,J oo dL oc] 33)).alloc (ah #[K L c,K L d] 38)).alloc (ah #[K L c2,K L d2] 38)).alloc (ah #[K L 0,J U 0 0,J U 0 0,J U 0 0,J U 0 0,J U 0 0] 33))=W at *;have SW:=D (EY W NI.out);clear EY;obtain⟨x0,x1,x2,x3,x4,x5⟩:=wo.out.eZ;obtain⟨y0,y1⟩:=kM.out.cs2;obtain⟨z0,z1⟩:=lC.out.cs2;rcases mJ (es.map iH) ((c,d),(c2,d2)) with hf|⟨k,hf,hkk⟩
 ·have LB:=D (show takeB b (c,d) (c2,d2) f=(b,[],X) by
   have hf2:=hf;rw [Vv.out] at hf2;unfold takeB;rw [hf2]
   split
   ·rfl
   ·rw [if_pos rfl])
  rw [hf] at SW;clear hf;go_wp2_with fail;refine SW.out.mono ?_;rintro e1 w1 ⟨rfl,hb⟩;clear SW;clear x0 x1 x2 x3 x4 x5 y0 y1 z0 z1;have lD:=D (gD.out.trans (hb.mono gD.out.size));have mg:=D (wo.out.on hb);have AA:=D (kM.out.on hb);have ru:=D (lC.out.on hb);have rz:=D (Az.out.on hb);have aaI:=D (NI.out.on hb);clear gD wo kM lC Az NI;clear hb;obtain⟨x0,x1,x2,x3,x4,x5⟩:=mg.out.eZ;obtain⟨r0,r1,r2,r3,r4,r5⟩:=rz.out.eZ;obtain⟨Bw,Bz,BD,BJ,BM,BP⟩:=rz.out.ku;have zz:=rz.out.lt;have FB:=D (dJ rz.out (K L me) (J no nn nc) (J ao an ac) (J so sn sc) (J eo n3 ec) (J oo dL oc));have BL:=D (dB (b:=w.heap.size+1+1+1) lD.out (by omega) (K L me) (J no nn nc) (J ao an ac) (J so sn sc) (J eo n3 ec) (J oo dL oc));go_wp2_with fail;obtain⟨v0,v1,v2,v3,v4,v5⟩:=FB.out.eZ;refine au (v:=.tuple #[aX #[K L me,J no nn nc,J ao an ac,J so sn sc,J eo n3 ec,J oo dL oc],J U 0 0,Y X]) (by simp [results,bg,go_sem,v0,v1,v2,v3,v4,v5]) rfl ?_;rw [LB.out];exact⟨⟨(eo,n3,ec),(U,0,0),rfl,HH.out.on BL.out,[],jg _,.nil⟩,BL.out⟩
 ·rw [hf] at SW;have hk:k<es.length:=by have:=(aK.1 hkk).1; simpa using this
  obtain⟨y,hy⟩:∃ y,es[k]?=aj y:=⟨_,V hk⟩;obtain⟨e0,he0⟩:∃ e,b.ent[k]?=aj e:=⟨_,V (by rw [<- HE2.out.len]; exact hk)⟩;obtain⟨y_,hy_,hye⟩:=HE2.out.at k e0 he0;obtain rfl:y=y_:=ak (hy.symm.trans hy_);have hkn:k<n3:=by rw [N3.out]; exact hk
  have LB:=D (show takeB b (c,d) (c2,d2) f=if e0.from_≠f then (b,[],X) else if e0.up=X then ({ b with ent:=cutAt b.ent k },[],X) else ({ b with ent:=(iL (c,d) (cutAt b.ent k) (cutAt b.ent k).length).1 },(iL (c,d) (cutAt b.ent k) (cutAt b.ent k).length).2,aD) by
   have hf2:=hf;rw [Vv.out] at hf2;unfold takeB;rw [hf2,Int.toNat_natCast,he0];simp only;rw [if_neg (by omega)])
  obtain⟨p,ix,px⟩:=Px NI.out rfl N3.out.symm hy;obtain⟨t1,t2,t3,t4,⟨po,pn,pc⟩,fr,up⟩:=y;obtain⟨hl1,hl2,hfr,hup,hl5⟩:=hye;simp only at hfr hup;rw [<- hfr,<- hup] at LB;clear hfr hup hl1 hl2 hl5 hy_ he0 e0;have hik:decide ((k:Int)<0)=X:=decide_eq_false (by omega);have XL:=EL.out;go_wp2_with fail;refine SW.out.mono ?_;rintro e1 w1 ⟨rfl,hb⟩;have xu:=px w1 hb;obtain⟨p0,p1,p2,p3,p4,p5,p6⟩:=xu;clear SW px;clear x0 x1 x2 x3 x4 x5 y0 y1 z0 z1;have lD:=D (gD.out.trans (hb.mono gD.out.size));have mg:=D (wo.out.on hb);have AA:=D (kM.out.on hb);have ru:=D (lC.out.on hb);have rz:=D (Az.out.on hb);have aaI:=D (NI.out.on hb);clear gD wo kM lC Az NI;clear hb hf;by_cases hpf:fr=f
  ·rw [if_neg (by simp [hpf])] at LB;have hne:(fr != f)=X:=by simp [hpf]
   obtain⟨x0,x1,x2,x3,x4,x5⟩:=mg.out.eZ;obtain⟨r0,r1,r2,r3,r4,r5⟩:=rz.out.eZ;obtain⟨Bw,Bz,BD,BJ,BM,BP⟩:=rz.out.ku;have zz:=rz.out.lt;go_upto_region 5 with fail;clear zz hne hik ix p0 p1 p2 p3 p4 p5 p6;clear x0 x1 x2 x3 x4 x5 r0 r1 r2 r3 r4 r5 Bw Bz BD BJ BM BP;refine ae2 _ w1 w.heap.size (w.heap.size+1) me _ _ _ _ eo n3 ec k es _ _ _ _ _ _ _ _ _ _ _ _ _ _ _ _ _ _ _ _ _ _ _ _ _ _ _ _ _ _ _ _ _ _ _ _ _ _ _ _ _ _ _ _ _ _ _ _ _ _ _ _ _ _ _ _ _ _ _ _ _ _ _ _ _ _ _ _ _ _ _ _ _ _ _ _ _ _ _ _ _ _ _ _ _ _ _ _ _ _ _ _ _ _ _ _ _ _ _ _ _ mg.out aaI.out (by omega) XL ?_;intro xw v39 v40 v41 v42 v43 v44 v45 v46 v47 v48 v49 v50 v51 hbx ho hbl hoth hblk;have CE:=D (show eu (je w) (es.take k++es.drop (k+1)) (cutAt b.ent k) from (HE2.out.take k).append (HE2.out.drop (k+1)));have OK2:=D (show ∀ e∈cutAt b.ent k,dQ e.p from fun e he=>by
    rcases aW.1 he with h|h
    ·exact OK.out e (bI h)
    ·exact OK.out e (bJ h))
   have CL:=D (show (es.take k++es.drop (k+1)).length<=900 from by rw [List.length_append,bS,List.length_drop]; omega);generalize es.take k++es.drop (k+1)=cs at *;obtain⟨ea,EK,hev⟩:=(aN ho).len;obtain⟨n,hn⟩:∃ n,n=cs.length:=⟨_,rfl⟩;rw [<- hn] at hev;subst hev;have N:=D hn;clear hn;have CN:=D (show (cutAt b.ent k).length=n from by rw [N.out,CE.out.len]);have hcl:=CN.out;simp only [hcl] at LB;generalize cutAt b.ent k=cb at *;clear hcl;have lN:=D (lD.out.trans (hbl _ (aJ _)));have VY:=D (hbx);have wS:=D (hoth _ _ _ (by omega) AA.out);have lQ:=D (hoth _ _ _ (by omega) ru.out);have oI:=D (hoth _ _ _ (by omega) rz.out);have QW:=D (dG ho (show w.heap.size+4<=w1.heap.size by have:=rz.out.lt; omega));have WF:=D (show w.heap.size+4<=xw.heap.size from by have:=oI.out.lt; omega);clear hbx ho hbl hoth hblk lD mg AA ru rz aaI;cases up
   ·rw [if_pos rfl] at LB;obtain⟨x0,x1,x2,x3,x4,x5⟩:=VY.out.eZ;obtain⟨r0,r1,r2,r3,r4,r5⟩:=oI.out.eZ;obtain⟨Bw,Bz,BD,BJ,BM,BP⟩:=oI.out.ku;have zz:=oI.out.lt;have FB:=D (dJ oI.out (K L me) (J no nn nc) (J ao an ac) (J so sn sc) (J ea n EK) (J oo dL oc));have BL:=D (dB (b:=w.heap.size+1+1+1) lN.out (by omega) (K L me) (J no nn nc) (J ao an ac) (J so sn sc) (J ea n EK) (J oo dL oc));have Nh:=D (fE QW.out (w.heap.size+1+1+1) (by omega) (K L me) (J no nn nc) (J ao an ac) (J so sn sc) (J ea n EK) (J oo dL oc));go_wp2_with fail;obtain⟨v0,v1,v2,v3,v4,v5⟩:=FB.out.eZ;refine au (v:=.tuple #[aX #[K L me,J no nn nc,J ao an ac,J so sn sc,J ea n EK,J oo dL oc],J U 0 0,Y X]) (by simp [results,bg,go_sem,v0,v1,v2,v3,v4,v5]) rfl ?_;rw [LB.out];have hI:=HH.out.on BL.out;exact⟨⟨(ea,n,EK),(U,0,0),rfl,⟨hI.near,hI.dM,hI.seen,⟨cs,aN Nh.out,CE.out.mono fun _ _ h=>h.on BL.out⟩,hI.own⟩,[],jg _,.nil⟩,BL.out⟩
   ·rw [if_neg (by simp)] at LB;have L4:=CL.out;rw [<- N.out] at L4;obtain⟨x0,x1,x2,x3,x4,x5⟩:=VY.out.eZ;go_wp2_with fail;clear x0 x1 x2 x3 x4 x5
    go_loopw [13,58] (fun v i wr=>∃ (k:Nat) (xs ls:List iF) (a:Option cB) (c_:Nat),k<=n/\i=K L k/\Below w.heap.size w wr/\w.heap.size+4<=wr.heap.size/\dI wr w.heap.size #[K L me,J no nn nc,J ao an ac,J so sn sc,J a n c_,J oo dL oc] 33/\dI wr (w.heap.size+1) #[K L c,K L d] 38/\dI wr (w.heap.size+1+1+1) #[K L 0,J U 0 0,J U 0 0,J U 0 0,J U 0 0,J U 0 0] 33/\jA wr (w.heap.size+4) (J a n c_) xs/\eu (je w) xs (iL (c,d) cb k).1/\jA wr (w.heap.size+4) v ls/\eu (je w) ls (iL (c,d) cb k).2) (fun _ i _=>n-(intOf i).toNat)
    case atStart=>exact⟨0,cs,[],ea,EK,bD _,rfl,lN.out,WF.out,VY.out,wS.out,oI.out,QW.out,CE.out,gy _ _,.nil⟩
    case round =>
     clear WF lN VY wS lQ oI QW;obtain⟨k,xs,ls,ea,EK,hk,rfl,hgb,hwf,hx4,hx5,QY,hoe,hen,hol,hln⟩:=hrel;have Kv:=D (hgb);have tC:=D (hx4);have XP:=D (hx5);have Cb:=D (QY);have mK:=D (hoe);have Kw:=D (hol);have WF:=D hwf;have EN:=D hen;have LN:=D hln;clear hgb hwf hx4 hx5 QY hoe hen hol hln;have XN:=D (show xs.length=n from by rw [EN.out.len,(nI _ _ _).1,CN.out]);have LN9:=D (show ls.length<=900 from by rw [LN.out.len]; exact aM (nI _ _ _).2 (by omega));by_cases hlt:k<n
     ·have hlt':(k:Int)<(n:Int):=by omega
      have hw:IntKind.i64.wrap ((k:Int)+1)=(k:Int)+1:=aR _ (by omega);obtain⟨y,hy⟩:∃ y,xs[k]?=aj y:=⟨_,V (by rw [XN.out]; exact hlt)⟩;obtain⟨e,he⟩:∃ e,(iL (c,d) cb k).1[k]?=aj e:=⟨_,V (by rw [<- EN.out.len,XN.out]; exact hlt)⟩;obtain⟨y_,hy_,hye⟩:=EN.out.at k e he;obtain rfl:y=y_:=ak (hy.symm.trans hy_);have TK:=D (show iL (c,d) cb (k+1)=if e.tree=(c,d)/\e.up=X/\eU (iL (c,d) cb k).1 (c,d) e.p=X then ((iL (c,d) cb k).1.set k (Vw e),(iL (c,d) cb k).2++[Vw e]) else iL (c,d) cb k from by rw [lZ]; unfold ig; rw [he]);have OKK:=D ((FV (t:=(c,d)) dQ OK2.out k).1);have QZ:=D hye;have HY:=D hy;have OKE:=D (OKK.out e (aG he));clear hy_ hye he;generalize iL (c,d) cb k=mk at *;obtain⟨p,ix,px⟩:=Px (aN mK.out) rfl XN.out hy;obtain⟨p0,p1,p2,p3,p4,p5,p6⟩:=px wr (aI _ _);obtain⟨y1,y2,y3,y4,⟨yo,yn,yc⟩,y6,y7⟩:=y;simp only at p0 p1 p2 p3 p4 p5 p6;clear px hy;obtain⟨x0,x1,x2,x3,x4,x5⟩:=tC.out.eZ;go_upto_region 13 with fail;clear x0 x1 x2 x3 x4 x5;clear p0 p1 p2 p3 p4 p5 p6 ix;have NN:=fO wr (ah #[K L y1,K L y2,K L y3,K L y4,J yo yn yc,K L y6,Y y7] 68);have WG:=D NN.size;have mY:=D (Kv.out.trans (NN.mono Kv.out.size));have uL:=D (tC.out.on NN);have FZ:=D (XP.out.on NN);have wT:=D (Cb.out.on NN);have uM:=D (Bk.dx mK.out NN);have Ky:=D (Bk.dx Kw.out NN);clear Kv tC XP Cb mK Kw;clear NN;have Q0:=D (dK wr #[K L y1,K L y2,K L y3,K L y4,J yo yn yc,K L y6,Y y7] 68);generalize wr.alloc (ah #[K L y1,K L y2,K L y3,K L y4,J yo yn yc,K L y6,Y y7] 68)=wa at *;obtain⟨x0,x1,x2,x3,x4,x5⟩:=uL.out.eZ;obtain⟨DU,y_1⟩:=FZ.out.cs2;obtain⟨z0,z1,z2,z3,z4,z5,z6⟩:=Q0.out.oq;have TE:=D (show e.tree=(y1,y2) from QZ.out.1.symm);have UE:=D (show e.up=y7 from QZ.out.2.2.2.1.symm);obtain⟨r1,hr1⟩:∃ r,(y1 == c && y2 == d)=r:=⟨_,rfl⟩;have heq:=uF y1 y2 c d r1 hr1;have R1:=D hr1;clear hr1;cases r1
      ·go_wp2_with fail
       go_roundw
       case rel=>exact⟨k+1,xs,ls,ea,EK,by omega,by go_num,mY.out,by have:=WG.out; have:=WF.out; omega,uL.out,FZ.out,wT.out,uM.out,by rw [TK.out,if_neg (by intro hh; have h1:=hh.1; rw [TE.out] at h1; have h2:=R1.out; simp at h1; simp [h1] at h2)]; exact EN.out,Ky.out,by rw [TK.out,if_neg (by intro hh; have h1:=hh.1; rw [TE.out] at h1; have h2:=R1.out; simp at h1; simp [h1] at h2)]; exact LN.out⟩
       case measure=>simp [intOf]; omega
      ·cases y7
       ·obtain⟨cv,hcv⟩:∃ r,eU mk.1 (c,d) e.p=r:=⟨_,rfl⟩;have CO:=uK me (J no nn nc) (J ao an ac) (J so sn sc) (J oo dL oc) (ea,n,EK) xs mk.1 (c,d) (J yo yn yc) e.p wa (aN uM.out) (EN.out.mono fun _ _ h=>h.on mY.out) (QZ.out.2.2.2.2.on mY.out) OKK.out OKE.out;rw [hcv] at CO;rw [hcv] at TK;clear hcv;go_wp2_with fail;refine CO.mono ?_;rintro e2 wb ⟨rfl,hb⟩;clear CO;clear x0 x1 x2 x3 x4 x5 DU y_1 z0 z1 z2 z3 z4 z5 z6;have kS:=D (mY.out.trans (hb.mono mY.out.size));have tF:=D (uL.out.on hb);have Q6:=D (FZ.out.on hb);have Q7:=D (wT.out.on hb);have tH:=D (Bk.dx uM.out hb);have Kz:=D (Bk.dx Ky.out hb);have Cc:=D (Q0.out.on hb);clear mY uL FZ wT uM Ky Q0;have WGb:=D (aM WG.out hb.size);clear hb WG;have WG:=D WGb.out;cases cv
        ·rw [if_pos ⟨by rw [TE.out]; have h:=R1.out; simp at h; rw [h.1,h.2],UE.out,rfl⟩] at TK;have NB:=fO wb (ah #[] 68);obtain⟨va,x1,q1,oa,ga⟩:=iC nR (w:=wb.alloc (ah #[] 68)) wb.heap.size (dK wb #[] 68) (aJ _) (aN (dx tH.out NB)) (by rw [XN.out]; omega) 30;have G1:=D (NB.trans (ga.mono NB.size));have m4:=(tF.out.on NB).cell 4;simp only [aF,aA,aB] at m4;rcases iR oa with⟨_,h0⟩|⟨g,cg,_,rfl,hBg,_,_⟩
         ·rw [h0] at XN;have:=XN.out;simp at this;omega
         rw [XN.out] at q1 oa;have q1:(Builtin.append_ #[30,30] 30 #[J (aj ⟨wb.heap.size,0,U⟩) 0 0,J ea n EK]).run ay (wb.alloc (ah #[] 68))=.ok (J (aj ⟨g,0,U⟩) n cg) x1:=q1;have OA:=D (dG oa (show w.heap.size+4<=wb.heap.size from by have:=WG.out; have:=WF.out; omega));have GL:=D (aM hBg (aJ g));clear oa ga NB;have OLB:=D (Kz.out);have F7:=D (kS.out.trans (G1.out.mono kS.out.size));have qV:=D (tF.out.on G1.out);have XQ:=D (Q6.out.on G1.out);have F9:=D (Q7.out.on G1.out);have KF:=D (Bk.dx tH.out G1.out);have XR:=D (Bk.dx Kz.out G1.out);have pK:=D (Cc.out.on G1.out);clear kS tF Q6 Q7 tH Kz Cc;have WG1:=D (aM WG.out G1.out.size);obtain⟨x0,x1,x2,x3,x4,x5⟩:=qV.out.eZ;obtain⟨xf0,xf1,VZ,V7,NJ,Wd⟩:=qV.out.ku;have hl4:=qV.out.lt;go_upto_region 15 with (first | (at_builtin; refine wpList_append_run rfl _ _ 30 rfl rfl rfl q1 ?_) | fail)
         clear x0 x1 x2 x3 x4 x5 xf0 xf1 VZ V7 NJ Wd;clear hl4 q1 m4;have X4b:=dO (k:=4) qV.out (J (aj ⟨g,0,U⟩) n cg);simp only [bn,bO,bf] at X4b;have BK:=dR x1 w.heap.size 4 (J (aj ⟨g,0,U⟩) n cg);have GB2:=D (F7.out.setCell (p:=⟨w.heap.size,4,U⟩) (aJ _) (J (aj ⟨g,0,U⟩) n cg));have Y4:=D X4b;have Y5:=D (BK.box XQ.out (by omega));have Y8:=D (BK.box F9.out (by omega));have OA2:=D (dY OA.out w.heap.size 4 (J (aj ⟨g,0,U⟩) n cg) (by omega));have OL2:=D (dY XR.out w.heap.size 4 (J (aj ⟨g,0,U⟩) n cg) (by omega));have WG2:=D (show wr.heap.size<=(x1.setCell ⟨w.heap.size,4,U⟩ (J (aj ⟨g,0,U⟩) n cg)).heap.size from by have:=WG1.out; simpa using this);clear X4b BK OA WG1 F7 qV XQ F9 KF XR pK;generalize x1.setCell ⟨w.heap.size,4,U⟩ (J (aj ⟨g,0,U⟩) n cg)=x2 at *;have UP:=VX OA2.out HY.out;obtain⟨u1,u2,u3⟩:=UP;simp only at u1 u2;have ix:=nG nR g k n cg hlt;have ix:∀ w,(Instr.indexAt 30 (J (aj ⟨g,0,U⟩) n cg) (K L (k:Int))).run ay w=.ok (aZ (aj ⟨g,k * 7,U⟩)) w:=ix;have x4:=Y4.out.cell 4;simp only [aF,aA,aB] at x4;have OU:=D u1;clear u1;have gl:g<x2.heap.size:=by obtain⟨cur,hb⟩:=jR OA2.out; exact hb.lt
         go_upto_region 16 with fail;clear u2 u3 x4 gl;have BG:=dR x2 g (k * 7+6) (Y aD);have GG:=D (show w.heap.size+4<=g from by have:=WG.out; have:=WF.out; have:=GL.out; omega);have GB3:=D (GB2.out.setCell (p:=⟨g,k * 7+6,U⟩) (by have:=GG.out; show w.heap.size<=g; omega) (Y aD));have Z4:=D (BG.box Y4.out (by have:=GG.out; omega));have Z5:=D (BG.box Y5.out (by have:=GG.out; omega));have Z8:=D (BG.box Y8.out (by have:=GG.out; omega));have LG:=D (show u13.ownBlock=U\/u13.ownBlock≠aj g from by
          cases hob:u13.ownBlock with
          | none=>exact bM rfl
          | some j =>
           refine aU fun e=>?_;injection e with e
           have h1:=(OLB.out.lt j hob).2;have h2:=GL.out;omega)
         have OL3:=D (OL2.out.kept (w':=x2.setCell ⟨g,k * 7+6,U⟩ (Y aD)) (row:=aj g) ⟨rfl,rfl,rfl,by simp [World.setCell],fun j _ hne=>O _ _ _ _ (fun e=>hne (by rw [e]))⟩ LG.out);have WG3:=D (show wr.heap.size<=(x2.setCell ⟨g,k * 7+6,U⟩ (Y aD)).heap.size from by have:=WG2.out; simpa using this);clear BG GB2 Y4 Y5 Y8 OA2 OL2 WG2;generalize x2.setCell ⟨g,k * 7+6,U⟩ (Y aD)=x3 at *;have OU2:=OU.out;have hset:(xs.set k (y1,y2,y3,y4,(yo,yn,yc),y6,aD))[k]?=aj (y1,y2,y3,y4,(yo,yn,yc),y6,aD):=List.getElem?_set_self (by rw [XN.out]; exact hlt);have ce:∀ j u,(iG (y1,y2,y3,y4,(yo,yn,yc),y6,aD))[j]?=aj u->x3.cell? ((⟨g,k * 7,U⟩:cB).add j)=aj u:=jW nR OU2 hset x3 (aI _ _);have c0_:=ce 0 _ rfl;have c1_:=ce 1 _ rfl;have c2_:=ce 2 _ rfl;have c3_:=ce 3 _ rfl;have c4_:=ce 4 _ rfl;have c5_:=ce 5 _ rfl;have c6_:=ce 6 _ rfl;simp [aO] at c0_ c1_ c2_ c3_ c4_ c5_ c6_;have x4:=Z4.out.cell 4;simp only [aF,aA,aB] at x4;have hlit:=gZ nR x3 [(y1,y2,y3,y4,(yo,yn,yc),y6,aD)] 1 rfl (by simp) #[K L y1,K L y2,K L y3,K L y4,J yo yn yc,K L y6,Y aD] rfl;have NB:=fO x3 (ah #[K L y1,K L y2,K L y3,K L y4,J yo yn yc,K L y6,Y aD] 68);have hB:w.heap.size+4<=(x3.alloc (ah #[K L y1,K L y2,K L y3,K L y4,J yo yn yc,K L y6,Y aD] 68)).heap.size:=aM (aM WF.out WG3.out) NB.size;obtain⟨v',x5,q2,o2,g2⟩:=fT nR (w.heap.size+4) (dx OL3.out NB) (aN hlit) (by have:=LN9.out; omega) (by simp) hB 30;have q2:(Builtin.append_ #[30,30] 30 #[u13,J (aj ⟨x3.heap.size,0,U⟩) 1 1]).run ay (x3.alloc (ah #[K L y1,K L y2,K L y3,K L y4,J yo yn yc,K L y6,Y aD] 68))=.ok v' x5:=q2;have GF:=D (show Below w.heap.size w x5 from ((GB3.out.trans (NB.mono GB3.out.size)).grown g2 (by omega) fun j hj=>by have:=((dx OL3.out NB).lt j hj).1; omega));have BO:=D (show ∀ j,j<x3.heap.size->aj j≠u13.ownBlock->x5.heap[j]?=x3.heap[j]? from fun j hj hne=>(g2.block j (Nat.lt_of_lt_of_le hj NB.size) hne).trans (NB.block j hj));have ZX:=fun (bb:Nat) (cs:Array aV) (tt:TypeId) (hbb:bb<w.heap.size+4) (hbx:dI x3 bb cs tt)=>show dI x5 bb cs tt from (BO.out bb hbx.lt (fun e=>by have:=(OL3.out.lt bb e.symm).1; omega)).trans hbx;have V4:=D (ZX _ _ _ (by omega) Z4.out);have V5:=D (ZX _ _ _ (by omega) Z5.out);have V8:=D (ZX _ _ _ (by omega) Z8.out);have OU5:=D (show jA x5 (w.heap.size+4) (J (aj ⟨g,0,U⟩) n cg) (xs.set k (y1,y2,y3,y4,(yo,yn,yc),y6,aD)) from by
          have h1:=Bk.dx OU.out NB;exact h1.kept g2 (by
           cases hob:u13.ownBlock with
           | none=>exact aU (by simp [Value.ownBlock])
           | some j =>
            refine aU fun e=>?_;have h2:=LG.out;rw [hob] at h2;rcases h2 with h2|h2
            ·cases h2
            ·exact h2 (by rw [<- e]; rfl)))
         have O2:=D o2;have W5:=D (aM WG3.out (aM NB.size g2.size));clear hlit hB o2 g2 ZX BO OU2 NB hset ce;go_wp2_with (first | (at_builtin; refine wpList_append_run rfl _ _ 30 rfl rfl rfl q2 ?_) | fail)
         go_roundw
         case rel=>exact⟨k+1,_,_,aj ⟨g,0,U⟩,cg,by omega,by go_num,GF.out,by have:=WF.out; have:=W5.out; omega,V4.out,V5.out,V8.out,OU5.out,by
          rw [TK.out];exact EN.out.set2 k ⟨QZ.out.1,QZ.out.2.1,QZ.out.2.2.1,rfl,QZ.out.2.2.2.2⟩,O2.out,by
          rw [TK.out];exact LN.out.append (.cons ⟨QZ.out.1,QZ.out.2.1,QZ.out.2.2.1,rfl,QZ.out.2.2.2.2⟩ .nil)⟩
         case measure=>simp [intOf]; omega
        ·go_wp2_with fail
         go_roundw
         case rel=>exact⟨k+1,xs,ls,ea,EK,by omega,by go_num,kS.out,by have:=WG.out; have:=WF.out; omega,tF.out,Q6.out,Q7.out,tH.out,by rw [TK.out,if_neg (by simp)]; exact EN.out,Kz.out,by rw [TK.out,if_neg (by simp)]; exact LN.out⟩
         case measure=>simp [intOf]; omega
       ·go_wp2_with fail
        go_roundw
        case rel=>exact⟨k+1,xs,ls,ea,EK,by omega,by go_num,mY.out,by have:=WG.out; have:=WF.out; omega,uL.out,FZ.out,wT.out,uM.out,by rw [TK.out,if_neg (by intro hh; have h1:=hh.2.1; rw [UE.out] at h1; cases h1)]; exact EN.out,Ky.out,by rw [TK.out,if_neg (by intro hh; have h1:=hh.2.1; rw [UE.out] at h1; cases h1)]; exact LN.out⟩
        case measure=>simp [intOf]; omega
     ·obtain rfl:k=n:=by omega
      obtain⟨x0,x1,x2,x3,x4,x5⟩:=tC.out.eZ;obtain⟨la,lc,hlv⟩:=(aN Kw.out).len;obtain⟨ln,hln⟩:∃ n,n=ls.length:=⟨_,rfl⟩;rw [<- hln] at hlv;subst hlv;clear hln;obtain⟨r0,r1,r2,r3,r4,r5⟩:=Cb.out.eZ;obtain⟨Bw,Bz,BD,BJ,BM,BP⟩:=Cb.out.ku;have zz:=Cb.out.lt;have FB:=D (dJ Cb.out (K L me) (J no nn nc) (J ao an ac) (J so sn sc) (J ea k EK) (J oo dL oc));have BL:=D (dB (b:=w.heap.size+1+1+1) Kv.out (by omega) (K L me) (J no nn nc) (J ao an ac) (J so sn sc) (J ea k EK) (J oo dL oc));have Nh:=D (fE mK.out (w.heap.size+1+1+1) (by omega) (K L me) (J no nn nc) (J ao an ac) (J so sn sc) (J ea k EK) (J oo dL oc));have OL2:=D (fE Kw.out (w.heap.size+1+1+1) (by omega) (K L me) (J no nn nc) (J ao an ac) (J so sn sc) (J ea k EK) (J oo dL oc));go_wp2_with fail;obtain⟨v0,v1,v2,v3,v4,v5⟩:=FB.out.eZ;refine au (v:=.tuple #[aX #[K L me,J no nn nc,J ao an ac,J so sn sc,J ea k EK,J oo dL oc],J la ln lc,Y aD]) (by simp [results,bg,go_sem,v0,v1,v2,v3,v4,v5]) rfl ?_;rw [LB.out];have hI:=HH.out.on BL.out;exact⟨⟨(ea,k,EK),(la,ln,lc),rfl,⟨hI.near,hI.dM,hI.seen,⟨xs,aN Nh.out,EN.out.mono fun _ _ h=>h.on BL.out⟩,hI.own⟩,ls,aN OL2.out,LN.out.mono fun _ _ h=>h.on BL.out⟩,BL.out⟩
  ·rw [if_pos hpf] at LB;have hne:(fr != f)=aD:=by simp [hpf]
   obtain⟨x0,x1,x2,x3,x4,x5⟩:=mg.out.eZ;obtain⟨r0,r1,r2,r3,r4,r5⟩:=rz.out.eZ;obtain⟨Bw,Bz,BD,BJ,BM,BP⟩:=rz.out.ku;have zz:=rz.out.lt;have FB:=D (dJ rz.out (K L me) (J no nn nc) (J ao an ac) (J so sn sc) (J eo n3 ec) (J oo dL oc));have BL:=D (dB (b:=w.heap.size+1+1+1) lD.out (by omega) (K L me) (J no nn nc) (J ao an ac) (J so sn sc) (J eo n3 ec) (J oo dL oc));go_wp2_with fail;obtain⟨v0,v1,v2,v3,v4,v5⟩:=FB.out.eZ;refine au (v:=.tuple #[aX #[K L me,J no nn nc,J ao an ac,J so sn sc,J eo n3 ec,J oo dL oc],J U 0 0,Y X]) (by simp [results,bg,go_sem,v0,v1,v2,v3,v4,v5]) rfl ?_;rw [LB.out];exact⟨⟨(eo,n3,ec),(U,0,0),rfl,HH.out.on BL.out,[],jg _,.nil⟩,BL.out⟩
end Bk
namespace Rl
open Go.RowKit Pu Rw Pr Va
end Rl
namespace Wr
open YtkcfgbddlpomgaaGreat.Nm At Pr
def Gc (n:Int):Prop:=-9223372036854775808<=n/\n<=9223372036854775807
def NK (c:C5):Bool:=Fb c.1 && (if c.2.1=1 then decide (c.2.2.2.2.size=0) && decide (c.2.2.1<=c.2.2.2.1) else if c.2.1=2 then decide (c.2.2.1=0) && (decide (c.2.2.2.1=0) && decide (c.2.2.2.2.size<=12)) else if c.2.1=3 then decide (c.2.2.1=0) && (decide (c.2.2.2.1=0) && decide (c.2.2.2.2.size<=11)) else X)
def acA (p x:C5):Bool:=Op.bytesLess p.1.toList x.1.toList
def Q8 (l:List C5) (k:Nat):Bool:=match l[k]? with
 | some x=>NK x && (k == 0 || (match l[k-1]? with
  | some p=>acA p x
  | none=>aD))
 | none=>aD
def iV (l:List C5):Bool:=(bZ l.length).all (Q8 l) && decide (l.length<=5)
theorem Jr (l:List C5) (h:∀ j,j<l.length->Q8 l j=aD):iV l=decide (l.length<=5):=by
 unfold iV;rw [List.all_eq_true.2 fun j hj=>h j (List.mem_range.1 hj),Bool.true_and]
end Wr
namespace Pr
open Go.RowKit Go.Sort Pu Rw Va
end Pr
namespace Avp
open Go.RowKit Go.Sort Rw YtkcfgbddlpomgaaGreat.Nm At Pr Wr Va
end Avp
namespace Bk
open Go.RowKit Go.Sort Rw YtkcfgbddlpomgaaGreat.Nm Pr
abbrev Q9 (W:aQ) (b:Nat) (a0 a1 a2 a3 a4 a5 a6:aV):aQ:=((((((W.setCell ⟨b,0,U⟩ a0).setCell ⟨b,1,U⟩ a1).setCell ⟨b,2,U⟩ a2).setCell ⟨b,3,U⟩ a3).setCell ⟨b,4,U⟩ a4).setCell ⟨b,5,U⟩ a5).setCell ⟨b,6,U⟩ a6
theorem Ce {W:aQ} {b:Nat} {t:TypeId} {z0 z1 z2 z3 z4 z5 z6:aV} (h:dI W b #[z0,z1,z2,z3,z4,z5,z6] t) (a0 a1 a2 a3 a4 a5 a6:aV):dI (Q9 W b a0 a1 a2 a3 a4 a5 a6) b #[a0,a1,a2,a3,a4,a5,a6] t:=by
 have h2:=dO (k:=6) (dO (k:=5) (dO (k:=4) (dO (k:=3) (dO (k:=2) (dO (k:=1) (dO (k:=0) h a0) a1) a2) a3) a4) a5) a6;simp only [bn,bO,bf] at h2;exact h2
theorem xX (z:iF) (w:aQ):bQ ay 58 #[qZ z] w fun e w'=>e=aT (aX #[K L 3,K L z.1,K L z.2.1,K L z.2.2.1,K L z.2.2.2.1,dP z.2.2.2.2.1,J U 0 0])/\Below w.heap.size w w':=by
 obtain⟨c,d,g,h,⟨po,pn,pc⟩,fr,up⟩:=z;obtain⟨h0,h1,h2⟩:=gQ w #[K L c,K L d,K L g,K L h,J po pn pc,K L fr,Y up] #[K L 0,K L 0,K L 0,K L 0,K L 0,J U 0 0,J U 0 0] 68 43;obtain⟨x0,x1,x2,x3,x4,x5,x6⟩:=h1.oq;obtain⟨r0,r1,r2,r3,r4,r5,r6⟩:=h2.oq;obtain⟨t0,t1,t2,t3,t4,t5,t6⟩:=h2.fs7;have zz:=h2.lt;have FB:=D (Ce h2 (K L 3) (K L c) (K L d) (K L g) (K L h) (J po pn pc) (J U 0 0));have BL:=D ((((((((h0.setCell (p:=⟨w.heap.size+1,0,U⟩) (by show w.heap.size<=w.heap.size+1; omega) (K L 3)).setCell (p:=⟨w.heap.size+1,1,U⟩) (by show w.heap.size<=w.heap.size+1; omega) (K L c)).setCell (p:=⟨w.heap.size+1,2,U⟩) (by show w.heap.size<=w.heap.size+1; omega) (K L d)).setCell (p:=⟨w.heap.size+1,3,U⟩) (by show w.heap.size<=w.heap.size+1; omega) (K L g)).setCell (p:=⟨w.heap.size+1,4,U⟩) (by show w.heap.size<=w.heap.size+1; omega) (K L h)).setCell (p:=⟨w.heap.size+1,5,U⟩) (by show w.heap.size<=w.heap.size+1; omega) (J po pn pc)).setCell (p:=⟨w.heap.size+1,6,U⟩) (by show w.heap.size<=w.heap.size+1; omega) (J U 0 0)));clear h0 h1 h2;show bQ ay 58 #[aX #[K L c,K L d,K L g,K L h,J po pn pc,K L fr,Y up]] w _;go_enter Tryz.func58,Tryz.ntmps58;go_upto_region 1 with fail;generalize (w.alloc (ah #[K L c,K L d,K L g,K L h,J po pn pc,K L fr,Y up] 68)).alloc (ah #[K L 0,K L 0,K L 0,K L 0,K L 0,J U 0 0,J U 0 0] 43)=W at *;go_wp2_with fail;obtain⟨v0,v1,v2,v3,v4,v5,v6⟩:=FB.out.oq;refine au (v:=aX #[K L 3,K L c,K L d,K L g,K L h,J po pn pc,J U 0 0]) (by simp [results,Tryz.results58,go_sem,v0,v1,v2,v3,v4,v5,v6]) rfl ?_;exact⟨rfl,BL.out⟩
end Bk
namespace Rl
open Go.RowKit Pu Pr
def Vx (p:List Cn) (n:ByteArray):Option Cn:=p.find? fun c=>decide (c.1=n)
theorem Ra {p:List Cn} {n:ByteArray} {y:Cn} (h:Vx p n=aj y):y∈p/\y.1=n:=⟨List.mem_of_find?_eq_some h,by simpa using List.find?_some h⟩
theorem acB {p:List Cn} {n:ByteArray} {k:Nat} {y:Cn} (hk:p[k]?=aj y) (he:y.1=n) (hn:∀ (j:Nat) (z:Cn),j<k->p[j]?=aj z->z.1≠n):Vx p n=aj y:=by
 unfold Vx;rw [List.find?_eq_some_iff_getElem];obtain⟨hlt,hy⟩:=aK.1 hk;refine⟨by simpa using he,k,hlt,hy,fun j hj=>?_⟩;have:=hn j p[j] hj (V (by omega));simpa using this
theorem Wh {p:List Cn} {n:ByteArray} (hn:∀ (j:Nat) (z:Cn),j<p.length->p[j]?=aj z->z.1≠n):Vx p n=U:=by
 unfold Vx;rw [bP];intro x hx;obtain⟨j,hj,e⟩:=bK hx;have:=hn j x hj (by rw [V hj,e]);simpa using this
def Js (b:List Cn) (x:Cn):Bool:=match Vx b x.1 with
 | some y=>eB y.2 x.2
 | none=>X
theorem NM {a b:List Cn} (hb:mX b):oG a b=a.all (Js b):=by
 unfold oG
 congr 1
 funext x
 unfold Js;cases hf:Vx b x.1 with
 | none =>
  rw [bR];intro y hy;have:=bP.1 hf y hy;simp only [decide_eq_true_eq] at this;simp [this]
 | some y =>
  obtain⟨h1,h2⟩:=Ra hf;rw [bH,bU];constructor
  ·rintro⟨z,hz,h3⟩;simp only [bG,decide_eq_true_eq] at h3;rw [acp hb h1 hz (h2.trans h3.1.symm)];exact h3.2
  ·intro h3;exact⟨y,h1,by simp [h2,h3]⟩
theorem Jt {n:ByteArray} {c d k:Kd} (hc:iW c=aD) (hd:iW d=aD) (h:eY c d=aj k):PY (r5 (n,k)) (r5 (n,d))=eB d c:=by
 obtain⟨k1,k2⟩:=M7 c d k hc hd h;rw [bH,PZ];constructor
 ·intro e;have e2:=aav e;obtain rfl:k=d:=congrArg Prod.snd e2;exact Aq k c hd fun v hv=>by rw [k2,bG] at hv; exact hv.1
 ·intro hi;have:k=d:=I7 k d k1 hd fun v=>by
   rw [k2,bH,bG];exact⟨fun h=>h.2,fun h=>⟨sZ d c hi v h,h⟩⟩
  rw [this]
theorem Ju {c d:Kd} (hd:iW d=aD) (h:eY c d=U):eB d c=X:=by
 rw [Bool.eq_false_iff];intro hi;obtain⟨v,hv⟩:=I6 d hd;have:=M8 c d h v;rw [hv,sZ d c hi v hv] at this;cases this
/-! ### samples -/
/-! ### both together -/
end Rl
end Go.Proofs.YtkcfgbddlpomgaaGreat
