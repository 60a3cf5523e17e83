/-
  What Take answers, o. Conditions as told.
-/
import Derived.Test.YtmklifheakemeaaGreatCQ028
import Derived.Test.YtmklifheakemeaaGreatCQ018
import Derived.Test.YtmklifheakemeaaGreatCQ021
set_option maxRecDepth 100000
set_option maxHeartbeats 64000000
open _root_.Bool renaming false->aS,true->aT
open _root_.Go renaming World->aH,Value->aJ,Addr->bL,TypeId->dw
open Go.Builtin renaming append_->aQ
open Go.IntKind renaming i64->V
open Go.IntWalk renaming i64_in->bf
open Go.Lib renaming hid->L
open Go.Obj renaming cells->aj
open Go.Operand renaming tmp->ah
open Go.Proofs.Tryz renaming prog->aF,results150->aX,results100->cu,results38->cK
open Go.Proofs.YtmklifheakemeaaGreat.Rg renaming dD->aD,dR->bQ,fV->cO,dW->dh,gI->dn,jg->dx,dL->dB
open Go.Proofs.YtmklifheakemeaaGreat.Rw.Row renaming dH->aL
open Go.RowKit.Below renaming refl->ak,heap_setCell->aI
open Go.Value renaming slice->J,int->U,pointer->Y,bool->aO,agg->aP
open _root_.Int renaming toNat_natCast->bG
open _root_.List renaming getElem?_toArray->au,getElem?_cons_zero->ay,getElem?_cons_succ->aA,getElem?_eq_getElem->aB,length_append->aK,mem_of_getElem?->aM,length_take->aN,map_toArray->aV,mem_append->aW,set_cons_succ->aZ,setIfInBounds_toArray->bg,mem_or_eq_of_mem_set->bF,getElem?_map->bH,map_cons->bJ,length_drop->bK,map_nil->bM,take_of_length_le->bN,length_map->bR,mem_of_mem_take->bS,mem_of_mem_drop->bU,mem_singleton->bX,set_cons_zero->bY,take_add_one->bZ
open _root_.Nat renaming le_trans->Z,le_refl->aG,lt_of_lt_of_le->aR,le_of_lt->aU,lt_of_le_of_lt->bD,zero_le->bV,mul_le_mul->cB,le_succ->cZ
open _root_.Option renaming some->O,none->X
open Option.some renaming inj->aY
open _root_.Or renaming inr->aC,inl->bI
namespace Go.Proofs.YtmklifheakemeaaGreat.Bk
open Go.RowKit Go.Sort Rw YtmklifheakemeaaGreat.Nm Pr
open Av
def upE (e:En):En:={ e with up:=aT }
def iV (t:Id) (s:List En×List En) (k:Nat):List En×List En:=match s.1[k]? with
 | none=>s
 | some e=>if e.tree=t/\e.up=aS/\fE s.1 t e.p=aS then (s.1.set k (upE e),s.2++[upE e]) else s
def jk (t:Id) (m:List En) (k:Nat):List En×List En:=(List.range k).foldl (iV t) (m,[])
def takeB (b:Br) (t s:Id) (f:Int):Br×List En×Bool:=match b.ent[(jh (b.ent.map fO) (t,s)).toNat]? with
 | none=>(b,[],aS)
 | some e=>if jh (b.ent.map fO) (t,s)=-1 then (b,[],aS) else if e.from_≠f then (b,[],aS) else
  if e.up=aS then ({ b with ent:=cutAt b.ent (jh (b.ent.map fO) (t,s)).toNat },[],aS) else
  ({ b with ent:=(jk t (cutAt b.ent (jh (b.ent.map fO) (t,s)).toNat) (cutAt b.ent (jh (b.ent.map fO) (t,s)).toNat).length).1 },(jk t (cutAt b.ent (jh (b.ent.map fO) (t,s)).toNat) (cutAt b.ent (jh (b.ent.map fO) (t,s)).toNat).length).2,aT)
theorem nC (t:Id) (m:List En) (k:Nat):jk t m (k+1)=iV t (jk t m k) k:=by
 simp [jk,List.range_succ]
theorem Ii (t:Id) (s:List En×List En) (k:Nat):(iV t s k).1.length=s.1.length/\(iV t s k).2.length<=s.2.length+1:=by
 unfold iV
 split
 ·exact⟨rfl,cZ _⟩
 ·split
  ·simp
  ·exact⟨rfl,cZ _⟩
theorem oW (t:Id) (m:List En):∀ k,(jk t m k).1.length=m.length/\(jk t m k).2.length<=k
 | 0=>⟨rfl,aG _⟩
 | k+1=>by
  rw [nC];have h1:=oW t m k;have h2:=Ii t (jk t m k) k;omega
theorem J5 {t:Id} {m:List En} (P:List C5->Prop) (h:∀ e∈m,P e.p):∀ k,(∀ e∈(jk t m k).1,P e.p)/\∀ e∈(jk t m k).2,P e.p
 | 0=>⟨h,fun e he=>by simp [jk] at he⟩
 | k+1=>by
  have ih:=J5 (t:=t) P h k;rw [nC];unfold iV
  split
  ·exact ih
  ·rename_i e he
   split
   ·refine⟨fun x hx=>?_,fun x hx=>?_⟩
    ·rcases bF hx with h1|h1
     ·exact ih.1 x h1
     ·rw [h1];exact ih.1 e (aM he)
    ·rcases aW.1 hx with h1|h1
     ·exact ih.2 x h1
     ·rw [bX.1 h1];exact ih.1 e (aM he)
   ·exact ih
theorem J6:∀ (l:List iH) (k:Nat) (x:iH),l[k]?=O x->flat EN (l.set k (x.1,x.2.1,x.2.2.1,x.2.2.2.1,x.2.2.2.2.1,x.2.2.2.2.2.1,aT))=(flat EN l).set (k * 7+6) (aO aT)
 | [],k,x,h=>by simp at h
 | y::r,0,x,h=>by
  obtain rfl:y=x:=by simpa using h
  rfl
 | y::r,k+1,x,h=>by
  have ih:=J6 r k x (by simpa using h);rw [show (k+1) * 7+6=(k * 7+6)+1+1+1+1+1+1+1 by omega];simp only [aZ,flat,EN,jO,List.cons_append,List.nil_append] at ih ⊢;rw [ih]
theorem aaU {w:aH} {B g n cap k:Nat} {l:List iH} {x:iH} (h:kY w B (J (O ⟨g,0,X⟩) n cap) l) (hk:l[k]?=O x) :
  kY (w.setCell ⟨g,k * 7+6,X⟩ (aO aT)) B (J (O ⟨g,0,X⟩) n cap) (l.set k (x.1,x.2.1,x.2.2.1,x.2.2.2.1,x.2.2.2.2.1,x.2.2.2.2.2.1,aT))/\w.cell? ⟨g,k * 7+6,X⟩=O (aO x.2.2.2.2.2.2)/\w.frozen? ⟨g,k * 7+6,X⟩=aS:=by
 have c:=jP nX h hk w (ak _ _);have c6:=c 6 _ rfl;simp [Addr.add,EN] at c6;obtain⟨cur,hb⟩:=jU h;obtain⟨ao,c',hv⟩:=(aL h).len;obtain⟨_,rfl,_⟩:O ⟨g,0,X⟩=ao/\n=l.length/\cap=c':=by simpa using hv
 have h:w.ownsRow B 66 7 (J (O ⟨g,0,X⟩) l.length cap) l.length (flat EN l):=h;have t1:=(h.stored (k * 7+6) (aO aT)).1;refine⟨?_,c6,hb.fr _⟩;have e:=J6 l k x hk;show World.ownsRow _ B 66 7 _ (List.length _) (flat EN _);rw [e,List.length_set];exact t1
theorem eY.set2 {α β:Type} {R:α->β->Prop}:∀ {l:List α} {m:List β} (k:Nat) {a:α} {b:β},eY R l m->R a b->eY R (l.set k a) (m.set k b)
 | _,_,_,_,_,.nil,_=>.nil
 | _,_,0,_,_,.cons _ t,hr=>.cons hr t
 | _,_,k+1,_,_,.cons x t,hr=>.cons x (eY.set2 k t hr)
theorem J7 (w:aH) (c d e f:Array aJ) (r s t u:dw):Below w.heap.size w ((((w.alloc (aj c r)).alloc (aj d s)).alloc (aj e t)).alloc (aj f u))/\dJ ((((w.alloc (aj c r)).alloc (aj d s)).alloc (aj e t)).alloc (aj f u)) w.heap.size c r/\dJ ((((w.alloc (aj c r)).alloc (aj d s)).alloc (aj e t)).alloc (aj f u)) (w.heap.size+1) d s/\dJ ((((w.alloc (aj c r)).alloc (aj d s)).alloc (aj e t)).alloc (aj f u)) (w.heap.size+1+1) e t/\dJ ((((w.alloc (aj c r)).alloc (aj d s)).alloc (aj e t)).alloc (aj f u)) (w.heap.size+1+1+1) f u:=by
 obtain⟨h0,h1,h2,h3⟩:=gV w c d e r s t;refine⟨h0.alloc h0.size _,h1.more _,h2.more _,h3.more _,?_⟩;have h:=dO (((w.alloc (aj c r)).alloc (aj d s)).alloc (aj e t)) f u;have e2:(((w.alloc (aj c r)).alloc (aj d s)).alloc (aj e t)).heap.size=w.heap.size+1+1+1:=by simp
 rw [e2] at h;exact h
theorem R8 (b:Br) (nv av sv ev ov:Sl) (x s:Id) (f:Int) (w:aH) (h:iN w b nv av sv ev ov) (l3:b.ent.length<=900) (hok:∀ e∈b.ent,eD e.p) :
  Calls aF 150 #[mo b.me nv av sv ev ov,mW x,mW s,U V f] w fun e w'=>(∃ ev' lo:Sl,e=.returned (.tuple #[mo b.me nv av sv ev' ov,dY lo,aO (takeB b x s f).2.2])/\iN w' (takeB b x s f).1 nv av sv ev' ov/\∃ xs,lS w' (dY lo) xs/\eY (jD w') xs (takeB b x s f).2.1)/\Below w.heap.size w w':=by
 obtain⟨no,nn,nc⟩:=nv;obtain⟨ao,an,ac⟩:=av;obtain⟨so,sn,sc⟩:=sv;obtain⟨eo,en,ec⟩:=ev;obtain⟨oo,dU,oc⟩:=ov;obtain⟨c,d⟩:=x;obtain⟨c2,d2⟩:=s;obtain⟨es,he1,he2⟩:=h.ent;have KYS:=L (keys_eq he2);have EL:=L (show es.length<=900 by rw [he2.len]; exact l3);have HE2:=L he2;have OK:=L hok;obtain⟨q1,q2,hq⟩:=he1.len;obtain⟨rfl,rfl,rfl⟩:eo=q1/\en=es.length/\ec=q2:=by
  have:J eo en ec=J q1 es.length q2:=hq;simpa using this
 have EY:=Ca b.me (J no nn nc) (J ao an ac) (J so sn sc) (J oo dU oc) (eo,es.length,ec) es (c,d) (c2,d2);have HH:=L h;obtain⟨h0,h1,h2,h3,h4⟩:=J7 w #[U V b.me,J no nn nc,J ao an ac,J so sn sc,J eo es.length ec,J oo dU oc] #[U V c,U V d] #[U V c2,U V d2] #[U V 0,J X 0 0,J X 0 0,J X 0 0,J X 0 0,J X 0 0] 28 31 31 28;obtain⟨n3,Uo⟩:∃ n,n=es.length:=⟨_,rfl⟩;simp only [<- Uo] at h0 h1 h2 h3 h4 he1 HH EY ⊢;obtain⟨me,hme⟩:∃ me,me=b.me:=⟨_,rfl⟩;simp only [<- hme] at h0 h1 h2 h3 h4 EY ⊢;have N3:=L Uo;have gP:=L (h0);have q9:=L (h1);have nD:=L (h2);have mH:=L (h3);have vK:=L (h4);have R9:=L (he1.on h0);have HEW:=L he1;clear h0 h1 h2 h3 h4 he1 he2 h hq Uo l3 hme hok;go_enter Tryz.func150,Tryz.ntmps150;go_upto_region 1 with fail;generalize ((((w.alloc (aj #[U V me,J no nn nc,J ao an ac,J so sn sc,J eo n3 ec,J oo dU oc] 28)).alloc (aj #[U V c,U V d] 31)).alloc (aj #[U V c2,U V d2] 31)).alloc (aj #[U V 0,J X 0 0,J X 0 0,J X 0 0,J X 0 0,J X 0 0] 28))=W at *;have SW:=L (EY W R9.out);clear EY;obtain⟨x0,x1,x2,x3,x4,x5⟩:=q9.out.eX;obtain⟨y0,y1⟩:=nD.out.cs2;obtain⟨z0,z1⟩:=mH.out.cs2;rcases nN (es.map jf) ((c,d),(c2,d2)) with hf|⟨k,hf,hkk⟩
 ·have LB:=L (show takeB b (c,d) (c2,d2) f=(b,[],aS) by
   have hf2:=hf;rw [KYS.out] at hf2;unfold takeB;rw [hf2]
   split
   ·rfl
   ·rw [if_pos rfl])
  rw [hf] at SW;clear hf;go_wp2_with fail;refine SW.out.mono ?_;rintro e1 w1 ⟨rfl,hb⟩;clear SW;clear x0 x1 x2 x3 x4 x5 y0 y1 z0 z1;have mP:=L (gP.out.trans (hb.mono gP.out.size));have lI:=L (q9.out.on hb);have Sc:=L (nD.out.on hb);have pW:=L (mH.out.on hb);have qK:=L (vK.out.on hb);have agj:=L (R9.out.on hb);clear gP q9 nD mH vK R9;clear hb;obtain⟨x0,x1,x2,x3,x4,x5⟩:=lI.out.eX;obtain⟨r0,r1,r2,r3,r4,r5⟩:=qK.out.eX;obtain⟨xM,vL,Ah,Cq,Cr,Ct⟩:=qK.out.kI;have zz:=qK.out.lt;have FB:=L (dK qK.out (U V me) (J no nn nc) (J ao an ac) (J so sn sc) (J eo n3 ec) (J oo dU oc));have BL:=L (dG (b:=w.heap.size+1+1+1) mP.out (by omega) (U V me) (J no nn nc) (J ao an ac) (J so sn sc) (J eo n3 ec) (J oo dU oc));go_wp2_with fail;obtain⟨v0,v1,v2,v3,v4,v5⟩:=FB.out.eX;refine bodyPost_ret (v:=.tuple #[aP #[U V me,J no nn nc,J ao an ac,J so sn sc,J eo n3 ec,J oo dU oc],J X 0 0,aO aS]) (by simp [results,aX,go_sem,v0,v1,v2,v3,v4,v5]) rfl ?_;rw [LB.out];exact⟨⟨(eo,n3,ec),(X,0,0),rfl,HH.out.on BL.out,[],jC _,.nil⟩,BL.out⟩
 ·rw [hf] at SW;have hk:k<es.length:=by have:=(List.getElem?_eq_some_iff.1 hkk).1; simpa using this
  obtain⟨y,hy⟩:∃ y,es[k]?=O y:=⟨_,aB hk⟩;obtain⟨e0,he0⟩:∃ e,b.ent[k]?=O e:=⟨_,aB (by rw [<- HE2.out.len]; exact hk)⟩;obtain⟨y_,hy_,hye⟩:=HE2.out.at k e0 he0;obtain rfl:y=y_:=aY (hy.symm.trans hy_);have hkn:k<n3:=by rw [N3.out]; exact hk
  have LB:=L (show takeB b (c,d) (c2,d2) f=if e0.from_≠f then (b,[],aS) else if e0.up=aS then ({ b with ent:=cutAt b.ent k },[],aS) else ({ b with ent:=(jk (c,d) (cutAt b.ent k) (cutAt b.ent k).length).1 },(jk (c,d) (cutAt b.ent k) (cutAt b.ent k).length).2,aT) by
   have hf2:=hf;rw [KYS.out] at hf2;unfold takeB;rw [hf2,bG,he0];simp only;rw [if_neg (by omega)])
  obtain⟨p,ix,px⟩:=LK R9.out rfl N3.out.symm hy;obtain⟨t1,t2,t3,t4,⟨po,pn,pc⟩,fr,up⟩:=y;obtain⟨hl1,hl2,hfr,hup,hl5⟩:=hye;simp only at hfr hup;rw [<- hfr,<- hup] at LB;clear hfr hup hl1 hl2 hl5 hy_ he0 e0;have hik:decide ((k:Int)<0)=aS:=decide_eq_false (by omega);have XL:=EL.out;go_wp2_with fail;refine SW.out.mono ?_;rintro e1 w1 ⟨rfl,hb⟩;have Ab:=px w1 hb;obtain⟨p0,p1,p2,p3,p4,p5,p6⟩:=Ab;clear SW px;clear x0 x1 x2 x3 x4 x5 y0 y1 z0 z1;have mP:=L (gP.out.trans (hb.mono gP.out.size));have lI:=L (q9.out.on hb);have Sc:=L (nD.out.on hb);have pW:=L (mH.out.on hb);have qK:=L (vK.out.on hb);have agj:=L (R9.out.on hb);clear gP q9 nD mH vK R9;clear hb hf;by_cases hpf:fr=f
  ·rw [if_neg (by simp [hpf])] at LB;have hne:(fr != f)=aS:=by simp [hpf]
   obtain⟨x0,x1,x2,x3,x4,x5⟩:=lI.out.eX;obtain⟨r0,r1,r2,r3,r4,r5⟩:=qK.out.eX;obtain⟨xM,vL,Ah,Cq,Cr,Ct⟩:=qK.out.kI;have zz:=qK.out.lt;go_upto_region 5 with fail;clear zz hne hik ix p0 p1 p2 p3 p4 p5 p6;clear x0 x1 x2 x3 x4 x5 r0 r1 r2 r3 r4 r5 xM vL Ah Cq Cr Ct;refine akz _ w1 w.heap.size (w.heap.size+1) me _ _ _ _ eo n3 ec k es _ _ _ _ _ _ _ _ _ _ _ _ _ _ _ _ _ _ _ _ _ _ _ _ _ _ _ _ _ _ _ _ _ _ _ _ _ _ _ _ _ _ _ _ _ _ _ _ _ _ _ _ _ _ _ _ _ _ _ _ _ _ _ _ _ _ _ _ _ _ _ _ _ _ _ _ _ _ _ _ _ _ _ _ _ _ _ _ _ _ _ _ _ _ _ _ _ _ _ _ _ lI.out agj.out (by omega) XL ?_;intro xw v39 v40 v41 v42 v43 v44 v45 v46 v47 v48 v49 v50 v51 hbx ho hbl hoth hblk;have CE:=L (show eY (jD w) (es.take k++es.drop (k+1)) (cutAt b.ent k) from (HE2.out.take k).append (HE2.out.drop (k+1)));have OK2:=L (show ∀ e∈cutAt b.ent k,eD e.p from fun e he=>by
    rcases aW.1 he with h|h
    ·exact OK.out e (bS h)
    ·exact OK.out e (bU h))
   have CL:=L (show (es.take k++es.drop (k+1)).length<=900 from by rw [aK,aN,bK]; omega);generalize es.take k++es.drop (k+1)=cs at *;obtain⟨ea,IW,hev⟩:=(aL ho).len;obtain⟨n,hn⟩:∃ n,n=cs.length:=⟨_,rfl⟩;rw [<- hn] at hev;subst hev;have N:=L hn;clear hn;have CN:=L (show (cutAt b.ent k).length=n from by rw [N.out,CE.out.len]);have hcl:=CN.out;simp only [hcl] at LB;generalize cutAt b.ent k=cb at *;clear hcl;have nY:=L (mP.out.trans (hbl _ (aG _)));have aaV:=L (hbx);have Pv:=L (hoth _ _ _ (by omega) Sc.out);have mQ:=L (hoth _ _ _ (by omega) pW.out);have qy:=L (hoth _ _ _ (by omega) qK.out);have VT:=L (dM ho (show w.heap.size+4<=w1.heap.size by have:=qK.out.lt; omega));have WF:=L (show w.heap.size+4<=xw.heap.size from by have:=qy.out.lt; omega);clear hbx ho hbl hoth hblk mP lI Sc pW qK agj;cases up
   ·rw [if_pos rfl] at LB;obtain⟨x0,x1,x2,x3,x4,x5⟩:=aaV.out.eX;obtain⟨r0,r1,r2,r3,r4,r5⟩:=qy.out.eX;obtain⟨xM,vL,Ah,Cq,Cr,Ct⟩:=qy.out.kI;have zz:=qy.out.lt;have FB:=L (dK qy.out (U V me) (J no nn nc) (J ao an ac) (J so sn sc) (J ea n IW) (J oo dU oc));have BL:=L (dG (b:=w.heap.size+1+1+1) nY.out (by omega) (U V me) (J no nn nc) (J ao an ac) (J so sn sc) (J ea n IW) (J oo dU oc));have Q9:=L (fI VT.out (w.heap.size+1+1+1) (by omega) (U V me) (J no nn nc) (J ao an ac) (J so sn sc) (J ea n IW) (J oo dU oc));go_wp2_with fail;obtain⟨v0,v1,v2,v3,v4,v5⟩:=FB.out.eX;refine bodyPost_ret (v:=.tuple #[aP #[U V me,J no nn nc,J ao an ac,J so sn sc,J ea n IW,J oo dU oc],J X 0 0,aO aS]) (by simp [results,aX,go_sem,v0,v1,v2,v3,v4,v5]) rfl ?_;rw [LB.out];have hI:=HH.out.on BL.out;exact⟨⟨(ea,n,IW),(X,0,0),rfl,⟨hI.near,hI.dP,hI.seen,⟨cs,aL Q9.out,CE.out.mono fun _ _ h=>h.on BL.out⟩,hI.own⟩,[],jC _,.nil⟩,BL.out⟩
   ·rw [if_neg (by simp)] at LB;have L4:=CL.out;rw [<- N.out] at L4;obtain⟨x0,x1,x2,x3,x4,x5⟩:=aaV.out.eX;go_wp2_with fail;clear x0 x1 x2 x3 x4 x5
    go_loopw [13,58] (fun v i wr=>∃ (k:Nat) (xs ls:List iH) (a:Option bL) (c_:Nat),k<=n/\i=U V k/\Below w.heap.size w wr/\w.heap.size+4<=wr.heap.size/\dJ wr w.heap.size #[U V me,J no nn nc,J ao an ac,J so sn sc,J a n c_,J oo dU oc] 28/\dJ wr (w.heap.size+1) #[U V c,U V d] 31/\dJ wr (w.heap.size+1+1+1) #[U V 0,J X 0 0,J X 0 0,J X 0 0,J X 0 0,J X 0 0] 28/\kY wr (w.heap.size+4) (J a n c_) xs/\eY (jD w) xs (jk (c,d) cb k).1/\kY wr (w.heap.size+4) v ls/\eY (jD w) ls (jk (c,d) cb k).2) (fun _ i _=>n-(intOf i).toNat)
    case atStart=>exact⟨0,cs,[],ea,IW,bV _,rfl,nY.out,WF.out,aaV.out,Pv.out,qy.out,VT.out,CE.out,jl _ _,.nil⟩
    case round =>
     clear WF nY aaV Pv mQ qy VT;obtain⟨k,xs,ls,ea,IW,hk,rfl,hgb,hwf,hx4,hx5,VU,hoe,hen,hol,hln⟩:=hrel;have ru:=L (hgb);have vS:=L (hx4);have abU:=L (hx5);have Fy:=L (VU);have nO:=L (hoe);have Pw:=L (hol);have WF:=L hwf;have EN:=L hen;have LN:=L hln;clear hgb hwf hx4 hx5 VU hoe hen hol hln;have XN:=L (show xs.length=n from by rw [EN.out.len,(oW _ _ _).1,CN.out]);have LN9:=L (show ls.length<=900 from by rw [LN.out.len]; exact Z (oW _ _ _).2 (by omega));by_cases hlt:k<n
     ·have hlt':(k:Int)<(n:Int):=by omega
      have hw:IntKind.i64.wrap ((k:Int)+1)=(k:Int)+1:=bf _ (by omega);obtain⟨y,hy⟩:∃ y,xs[k]?=O y:=⟨_,aB (by rw [XN.out]; exact hlt)⟩;obtain⟨e,he⟩:∃ e,(jk (c,d) cb k).1[k]?=O e:=⟨_,aB (by rw [<- EN.out.len,XN.out]; exact hlt)⟩;obtain⟨y_,hy_,hye⟩:=EN.out.at k e he;obtain rfl:y=y_:=aY (hy.symm.trans hy_);have TK:=L (show jk (c,d) cb (k+1)=if e.tree=(c,d)/\e.up=aS/\fE (jk (c,d) cb k).1 (c,d) e.p=aS then ((jk (c,d) cb k).1.set k (upE e),(jk (c,d) cb k).2++[upE e]) else jk (c,d) cb k from by rw [nC]; unfold iV; rw [he]);have OKK:=L ((J5 (t:=(c,d)) eD OK2.out k).1);have VW:=L hye;have HY:=L hy;have OKE:=L (OKK.out e (aM he));clear hy_ hye he;generalize jk (c,d) cb k=mk at *;obtain⟨p,ix,px⟩:=LK (aL nO.out) rfl XN.out hy;obtain⟨p0,p1,p2,p3,p4,p5,p6⟩:=px wr (ak _ _);obtain⟨y1,y2,y3,y4,⟨yo,yn,yc⟩,y6,y7⟩:=y;simp only at p0 p1 p2 p3 p4 p5 p6;clear px hy;obtain⟨x0,x1,x2,x3,x4,x5⟩:=vS.out.eX;go_upto_region 13 with fail;clear x0 x1 x2 x3 x4 x5;clear p0 p1 p2 p3 p4 p5 p6 ix;have NN:=fF wr (aj #[U V y1,U V y2,U V y3,U V y4,J yo yn yc,U V y6,aO y7] 66);have WG:=L NN.size;have mI:=L (ru.out.trans (NN.mono ru.out.size));have xO:=L (vS.out.on NN);have J8:=L (abU.out.on NN);have zI:=L (Fy.out.on NN);have xP:=L (Bk.dI nO.out NN);have Px:=L (Bk.dI Pw.out NN);clear ru vS abU Fy nO Pw;clear NN;have VX:=L (dO wr #[U V y1,U V y2,U V y3,U V y4,J yo yn yc,U V y6,aO y7] 66);generalize wr.alloc (aj #[U V y1,U V y2,U V y3,U V y4,J yo yn yc,U V y6,aO y7] 66)=wa at *;obtain⟨x0,x1,x2,x3,x4,x5⟩:=xO.out.eX;obtain⟨Ij,y_1⟩:=J8.out.cs2;obtain⟨z0,z1,z2,z3,z4,z5,z6⟩:=VX.out.nJ;have TE:=L (show e.tree=(y1,y2) from VW.out.1.symm);have UE:=L (show e.up=y7 from VW.out.2.2.2.1.symm);obtain⟨r1,hr1⟩:∃ r,(y1 == c && y2 == d)=r:=⟨_,rfl⟩;have heq:=tF y1 y2 c d r1 hr1;have R1:=L hr1;clear hr1;cases r1
      ·go_wp2_with fail
       go_roundw
       case rel=>exact⟨k+1,xs,ls,ea,IW,by omega,by go_num,mI.out,by have:=WG.out; have:=WF.out; omega,xO.out,J8.out,zI.out,xP.out,by rw [TK.out,if_neg (by intro hh; have h1:=hh.1; rw [TE.out] at h1; have h2:=R1.out; simp at h1; simp [h1] at h2)]; exact EN.out,Px.out,by rw [TK.out,if_neg (by intro hh; have h1:=hh.1; rw [TE.out] at h1; have h2:=R1.out; simp at h1; simp [h1] at h2)]; exact LN.out⟩
       case measure=>simp [intOf]; omega
      ·cases y7
       ·obtain⟨cv,hcv⟩:∃ r,fE mk.1 (c,d) e.p=r:=⟨_,rfl⟩;have CO:=xL me (J no nn nc) (J ao an ac) (J so sn sc) (J oo dU oc) (ea,n,IW) xs mk.1 (c,d) (J yo yn yc) e.p wa (aL xP.out) (EN.out.mono fun _ _ h=>h.on mI.out) (VW.out.2.2.2.2.on mI.out) OKK.out OKE.out;rw [hcv] at CO;rw [hcv] at TK;clear hcv;go_wp2_with fail;refine CO.mono ?_;rintro e2 wb ⟨rfl,hb⟩;clear CO;clear x0 x1 x2 x3 x4 x5 Ij y_1 z0 z1 z2 z3 z4 z5 z6;have lD:=L (mI.out.trans (hb.mono mI.out.size));have rz:=L (xO.out.on hb);have VY:=L (J8.out.on hb);have VZ:=L (zI.out.on hb);have vT:=L (Bk.dI xP.out hb);have Py:=L (Bk.dI Px.out hb);have Fz:=L (VX.out.on hb);clear mI xO J8 zI xP Px VX;have WGb:=L (Z WG.out hb.size);clear hb WG;have WG:=L WGb.out;cases cv
        ·rw [if_pos ⟨by rw [TE.out]; have h:=R1.out; simp at h; rw [h.1,h.2],UE.out,rfl⟩] at TK;have NB:=fF wb (aj #[] 66);obtain⟨va,x1,q1,oa,ga⟩:=gZ nX (w:=wb.alloc (aj #[] 66)) wb.heap.size (dO wb #[] 66) (aG _) (aL (dI vT.out NB)) (by rw [XN.out]; omega) 25;have G1:=L (NB.trans (ga.mono NB.size));have m4:=(rz.out.on NB).cell 4;simp only [au,ay,aA] at m4;rcases gX oa with⟨_,h0⟩|⟨g,cg,_,rfl,hBg,_,_⟩
         ·rw [h0] at XN;have:=XN.out;simp at this;omega
         rw [XN.out] at q1 oa;have q1:(aQ #[25,25] 25 #[J (O ⟨wb.heap.size,0,X⟩) 0 0,J ea n IW]).run aF (wb.alloc (aj #[] 66))=.ok (J (O ⟨g,0,X⟩) n cg) x1:=q1;have OA:=L (dM oa (show w.heap.size+4<=wb.heap.size from by have:=WG.out; have:=WF.out; omega));have GL:=L (Z hBg (aG g));clear oa ga NB;have OLB:=L (Py.out);have xQ:=L (lD.out.trans (G1.out.mono lD.out.size));have sS:=L (rz.out.on G1.out);have abV:=L (VY.out.on G1.out);have J9:=L (VZ.out.on G1.out);have Pz:=L (Bk.dI vT.out G1.out);have abW:=L (Bk.dI Py.out G1.out);have rA:=L (Fz.out.on G1.out);clear lD rz VY VZ vT Py Fz;have WG1:=L (Z WG.out G1.out.size);obtain⟨x0,x1,x2,x3,x4,x5⟩:=sS.out.eX;obtain⟨xf0,xf1,xf2,xf3,Sd,xf5⟩:=sS.out.kI;have hl4:=sS.out.lt;go_upto_region 15 with (first | (at_builtin; refine wpList_append_run rfl _ _ 25 rfl rfl rfl q1 ?_) | fail)
         clear x0 x1 x2 x3 x4 x5 xf0 xf1 xf2 xf3 Sd xf5;clear hl4 q1 m4;have X4b:=dZ (k:=4) sS.out (J (O ⟨g,0,X⟩) n cg);simp only [bg,bY,aZ] at X4b;have BK:=dQ x1 w.heap.size 4 (J (O ⟨g,0,X⟩) n cg);have GB2:=L (xQ.out.setCell (p:=⟨w.heap.size,4,X⟩) (aG _) (J (O ⟨g,0,X⟩) n cg));have Y4:=L X4b;have Y5:=L (BK.box abV.out (by omega));have Y8:=L (BK.box J9.out (by omega));have OA2:=L (dX OA.out w.heap.size 4 (J (O ⟨g,0,X⟩) n cg) (by omega));have OL2:=L (dX abW.out w.heap.size 4 (J (O ⟨g,0,X⟩) n cg) (by omega));have WG2:=L (show wr.heap.size<=(x1.setCell ⟨w.heap.size,4,X⟩ (J (O ⟨g,0,X⟩) n cg)).heap.size from by have:=WG1.out; simpa using this);clear X4b BK OA WG1 xQ sS abV J9 Pz abW rA;generalize x1.setCell ⟨w.heap.size,4,X⟩ (J (O ⟨g,0,X⟩) n cg)=x2 at *;have UP:=aaU OA2.out HY.out;obtain⟨u1,u2,u3⟩:=UP;simp only at u1 u2;have ix:=lJ nX g k n cg hlt;have ix:∀ w,(Instr.indexAt 25 (J (O ⟨g,0,X⟩) n cg) (U V (k:Int))).run aF w=.ok (Y (O ⟨g,k * 7,X⟩)) w:=ix;have x4:=Y4.out.cell 4;simp only [au,ay,aA] at x4;have OU:=L u1;clear u1;have gl:g<x2.heap.size:=by obtain⟨cur,hb⟩:=jU OA2.out; exact hb.lt
         go_upto_region 16 with fail;clear u2 u3 x4 gl;have BG:=dQ x2 g (k * 7+6) (aO aT);have GG:=L (show w.heap.size+4<=g from by have:=WG.out; have:=WF.out; have:=GL.out; omega);have GB3:=L (GB2.out.setCell (p:=⟨g,k * 7+6,X⟩) (by have:=GG.out; show w.heap.size<=g; omega) (aO aT));have Z4:=L (BG.box Y4.out (by have:=GG.out; omega));have Z5:=L (BG.box Y5.out (by have:=GG.out; omega));have Z8:=L (BG.box Y8.out (by have:=GG.out; omega));have LG:=L (show u13.ownBlock=X\/u13.ownBlock≠O g from by
          cases hob:u13.ownBlock with
          | none=>exact bI rfl
          | some j =>
           refine aC fun e=>?_;injection e with e
           have h1:=(OLB.out.lt j hob).2;have h2:=GL.out;omega)
         have OL3:=L (OL2.out.kept (w':=x2.setCell ⟨g,k * 7+6,X⟩ (aO aT)) (row:=O g) ⟨rfl,rfl,rfl,by simp [World.setCell],fun j _ hne=>aI _ _ _ _ (fun e=>hne (by rw [e]))⟩ LG.out);have WG3:=L (show wr.heap.size<=(x2.setCell ⟨g,k * 7+6,X⟩ (aO aT)).heap.size from by have:=WG2.out; simpa using this);clear BG GB2 Y4 Y5 Y8 OA2 OL2 WG2;generalize x2.setCell ⟨g,k * 7+6,X⟩ (aO aT)=x3 at *;have OU2:=OU.out;have hset:(xs.set k (y1,y2,y3,y4,(yo,yn,yc),y6,aT))[k]?=O (y1,y2,y3,y4,(yo,yn,yc),y6,aT):=List.getElem?_set_self (by rw [XN.out]; exact hlt);have ce:∀ j u,(jO (y1,y2,y3,y4,(yo,yn,yc),y6,aT))[j]?=O u->x3.cell? ((⟨g,k * 7,X⟩:bL).add j)=O u:=jP nX OU2 hset x3 (ak _ _);have c0_:=ce 0 _ rfl;have c1_:=ce 1 _ rfl;have c2_:=ce 2 _ rfl;have c3_:=ce 3 _ rfl;have c4_:=ce 4 _ rfl;have c5_:=ce 5 _ rfl;have c6_:=ce 6 _ rfl;simp [Addr.add] at c0_ c1_ c2_ c3_ c4_ c5_ c6_;have x4:=Z4.out.cell 4;simp only [au,ay,aA] at x4;have hlit:=jm nX x3 [(y1,y2,y3,y4,(yo,yn,yc),y6,aT)] 1 rfl (by simp) #[U V y1,U V y2,U V y3,U V y4,J yo yn yc,U V y6,aO aT] rfl;have NB:=fF x3 (aj #[U V y1,U V y2,U V y3,U V y4,J yo yn yc,U V y6,aO aT] 66);have hB:w.heap.size+4<=(x3.alloc (aj #[U V y1,U V y2,U V y3,U V y4,J yo yn yc,U V y6,aO aT] 66)).heap.size:=Z (Z WF.out WG3.out) NB.size;obtain⟨v',x5,q2,o2,g2⟩:=gY nX (w.heap.size+4) (dI OL3.out NB) (aL hlit) (by have:=LN9.out; omega) (by simp) hB 25;have q2:(aQ #[25,25] 25 #[u13,J (O ⟨x3.heap.size,0,X⟩) 1 1]).run aF (x3.alloc (aj #[U V y1,U V y2,U V y3,U V y4,J yo yn yc,U V y6,aO aT] 66))=.ok v' x5:=q2;have GF:=L (show Below w.heap.size w x5 from ((GB3.out.trans (NB.mono GB3.out.size)).grown g2 (by omega) fun j hj=>by have:=((dI OL3.out NB).lt j hj).1; omega));have BO:=L (show ∀ j,j<x3.heap.size->O j≠u13.ownBlock->x5.heap[j]?=x3.heap[j]? from fun j hj hne=>(g2.block j (aR hj NB.size) hne).trans (NB.block j hj));have ZX:=fun (bb:Nat) (cs:Array aJ) (tt:dw) (hbb:bb<w.heap.size+4) (hbx:dJ x3 bb cs tt)=>show dJ x5 bb cs tt from (BO.out bb hbx.lt (fun e=>by have:=(OL3.out.lt bb e.symm).1; omega)).trans hbx;have V4:=L (ZX _ _ _ (by omega) Z4.out);have V5:=L (ZX _ _ _ (by omega) Z5.out);have V8:=L (ZX _ _ _ (by omega) Z8.out);have OU5:=L (show kY x5 (w.heap.size+4) (J (O ⟨g,0,X⟩) n cg) (xs.set k (y1,y2,y3,y4,(yo,yn,yc),y6,aT)) from by
          have h1:=Bk.dI OU.out NB;exact h1.kept g2 (by
           cases hob:u13.ownBlock with
           | none=>exact aC (by simp [Value.ownBlock])
           | some j =>
            refine aC fun e=>?_;have h2:=LG.out;rw [hob] at h2;rcases h2 with h2|h2
            ·cases h2
            ·exact h2 (by rw [<- e]; rfl)))
         have O2:=L o2;have W5:=L (Z WG3.out (Z NB.size g2.size));clear hlit hB o2 g2 ZX BO OU2 NB hset ce;go_wp2_with (first | (at_builtin; refine wpList_append_run rfl _ _ 25 rfl rfl rfl q2 ?_) | fail)
         go_roundw
         case rel=>exact⟨k+1,_,_,O ⟨g,0,X⟩,cg,by omega,by go_num,GF.out,by have:=WF.out; have:=W5.out; omega,V4.out,V5.out,V8.out,OU5.out,by
          rw [TK.out];exact EN.out.set2 k ⟨VW.out.1,VW.out.2.1,VW.out.2.2.1,rfl,VW.out.2.2.2.2⟩,O2.out,by
          rw [TK.out];exact LN.out.append (.cons ⟨VW.out.1,VW.out.2.1,VW.out.2.2.1,rfl,VW.out.2.2.2.2⟩ .nil)⟩
         case measure=>simp [intOf]; omega
        ·go_wp2_with fail
         go_roundw
         case rel=>exact⟨k+1,xs,ls,ea,IW,by omega,by go_num,lD.out,by have:=WG.out; have:=WF.out; omega,rz.out,VY.out,VZ.out,vT.out,by rw [TK.out,if_neg (by simp)]; exact EN.out,Py.out,by rw [TK.out,if_neg (by simp)]; exact LN.out⟩
         case measure=>simp [intOf]; omega
       ·go_wp2_with fail
        go_roundw
        case rel=>exact⟨k+1,xs,ls,ea,IW,by omega,by go_num,mI.out,by have:=WG.out; have:=WF.out; omega,xO.out,J8.out,zI.out,xP.out,by rw [TK.out,if_neg (by intro hh; have h1:=hh.2.1; rw [UE.out] at h1; cases h1)]; exact EN.out,Px.out,by rw [TK.out,if_neg (by intro hh; have h1:=hh.2.1; rw [UE.out] at h1; cases h1)]; exact LN.out⟩
        case measure=>simp [intOf]; omega
     ·obtain rfl:k=n:=by omega
      obtain⟨x0,x1,x2,x3,x4,x5⟩:=vS.out.eX;obtain⟨la,lc,hlv⟩:=(aL Pw.out).len;obtain⟨ln,hln⟩:∃ n,n=ls.length:=⟨_,rfl⟩;rw [<- hln] at hlv;subst hlv;clear hln;obtain⟨r0,r1,r2,r3,r4,r5⟩:=Fy.out.eX;obtain⟨xM,vL,Ah,Cq,Cr,Ct⟩:=Fy.out.kI;have zz:=Fy.out.lt;have FB:=L (dK Fy.out (U V me) (J no nn nc) (J ao an ac) (J so sn sc) (J ea k IW) (J oo dU oc));have BL:=L (dG (b:=w.heap.size+1+1+1) ru.out (by omega) (U V me) (J no nn nc) (J ao an ac) (J so sn sc) (J ea k IW) (J oo dU oc));have Q9:=L (fI nO.out (w.heap.size+1+1+1) (by omega) (U V me) (J no nn nc) (J ao an ac) (J so sn sc) (J ea k IW) (J oo dU oc));have OL2:=L (fI Pw.out (w.heap.size+1+1+1) (by omega) (U V me) (J no nn nc) (J ao an ac) (J so sn sc) (J ea k IW) (J oo dU oc));go_wp2_with fail;obtain⟨v0,v1,v2,v3,v4,v5⟩:=FB.out.eX;refine bodyPost_ret (v:=.tuple #[aP #[U V me,J no nn nc,J ao an ac,J so sn sc,J ea k IW,J oo dU oc],J la ln lc,aO aT]) (by simp [results,aX,go_sem,v0,v1,v2,v3,v4,v5]) rfl ?_;rw [LB.out];have hI:=HH.out.on BL.out;exact⟨⟨(ea,k,IW),(la,ln,lc),rfl,⟨hI.near,hI.dP,hI.seen,⟨xs,aL Q9.out,EN.out.mono fun _ _ h=>h.on BL.out⟩,hI.own⟩,ls,aL OL2.out,LN.out.mono fun _ _ h=>h.on BL.out⟩,BL.out⟩
  ·rw [if_pos hpf] at LB;have hne:(fr != f)=aT:=by simp [hpf]
   obtain⟨x0,x1,x2,x3,x4,x5⟩:=lI.out.eX;obtain⟨r0,r1,r2,r3,r4,r5⟩:=qK.out.eX;obtain⟨xM,vL,Ah,Cq,Cr,Ct⟩:=qK.out.kI;have zz:=qK.out.lt;have FB:=L (dK qK.out (U V me) (J no nn nc) (J ao an ac) (J so sn sc) (J eo n3 ec) (J oo dU oc));have BL:=L (dG (b:=w.heap.size+1+1+1) mP.out (by omega) (U V me) (J no nn nc) (J ao an ac) (J so sn sc) (J eo n3 ec) (J oo dU oc));go_wp2_with fail;obtain⟨v0,v1,v2,v3,v4,v5⟩:=FB.out.eX;refine bodyPost_ret (v:=.tuple #[aP #[U V me,J no nn nc,J ao an ac,J so sn sc,J eo n3 ec,J oo dU oc],J X 0 0,aO aS]) (by simp [results,aX,go_sem,v0,v1,v2,v3,v4,v5]) rfl ?_;rw [LB.out];exact⟨⟨(eo,n3,ec),(X,0,0),rfl,HH.out.on BL.out,[],jC _,.nil⟩,BL.out⟩
structure Ou where
 iM:Int
 kind:Int
 tree:Id
 id:Id
 p:List C5
def rD (W:aH) (x:mE) (o:Ou):Prop:=x.1=o.iM/\x.2.1=o.kind/\(x.2.2.1,x.2.2.2.1)=o.tree/\(x.2.2.2.2.1,x.2.2.2.2.2.1)=o.id/\fK W (dY x.2.2.2.2.2.2.1) o.p/\x.2.2.2.2.2.2.2=(X,0,0)
theorem rD.on {W W':aH} {x:mE} {o:Ou} (h:rD W x o) (hb:Below W.heap.size W W'):rD W' x o:=⟨h.1,h.2.1,h.2.2.1,h.2.2.2.1,h.2.2.2.2.1.on hb,h.2.2.2.2.2⟩
def iW (W:aH) (s:Sl) (l:List Ou):Prop:=∃ xs,Ju W (dY s) xs/\eY (rD W) xs l
theorem iW.on {W W':aH} {s:Sl} {l:List Ou} (h:iW W s l) (hb:Below W.heap.size W W'):iW W' s l:=by
 obtain⟨xs,h1,h2⟩:=h;exact⟨xs,h1.on hb,h2.mono fun _ _ h=>h.on hb⟩
theorem rE (W:aH):iW W (X,0,0) []:=⟨[],jC _,.nil⟩
def xS (iM:Int) (e:En):Ou:=⟨iM,3,e.tree,e.sub,e.p⟩
abbrev Nl (iM:Int) (x:iH):mE:=(iM,3,x.1,x.2.1,x.2.2.1,x.2.2.2.1,x.2.2.2.2.1,(X,0,0))
theorem agl {W:aH} {x:iH} {e:En} (h:jD W x e) (t:Int):rD W (Nl t x) (xS t e):=⟨rfl,rfl,h.1,h.2.1,h.2.2.2.2,rfl⟩
def kU (b:Br) (t x:Id) (f:Int):Br×List Ou:=if (takeB b t x f).2.2=aS then ((takeB b t x f).1,[]) else
 match b.dP[(fM (b.dP.map Ad.id) t).toNat]? with
 | none=>((takeB b t x f).1,[])
 | some a=>((takeB b t x f).1,(takeB b t x f).2.1.map (xS a.par)++[⟨a.par,4,t,x,[]⟩])
theorem kg (b:Br) (t x:Id) (f:Int):(takeB b t x f).1.dP=b.dP/\(takeB b t x f).1.near=b.near/\(takeB b t x f).1.me=b.me/\(takeB b t x f).1.seen=b.seen/\(takeB b t x f).1.own=b.own:=by
 unfold takeB
 split
 ·exact⟨rfl,rfl,rfl,rfl,rfl⟩
 ·split
  ·exact⟨rfl,rfl,rfl,rfl,rfl⟩
  ·split
   ·exact⟨rfl,rfl,rfl,rfl,rfl⟩
   ·split <;> exact⟨rfl,rfl,rfl,rfl,rfl⟩
theorem FJ (l:List Id) (x:Id) (h:x∈l):∃ k:Nat,fM l x=k/\l[k]?=O x:=by
 induction l with
 | nil=>simp at h
 | cons a r ih =>
  by_cases e:a=x
  ·subst e;exact⟨0,by simp [fM],rfl⟩
  ·have hr:x∈r:=by
    rcases List.mem_cons.1 h with h1|h1
    ·exact absurd h1.symm e
    ·exact h1
   obtain⟨k,h1,h2⟩:=ih hr;refine⟨k+1,?_,by simpa using h2⟩;rw [fM,if_neg e,h1,if_neg (by omega)];omega
theorem Nn {b:Br} {t x:Id} {f:Int} (h:(takeB b t x f).2.2=aT):∃ e∈b.ent,e.tree=t:=by
 unfold takeB at h
 split at h
 ·cases h
 ·rename_i e he
  split at h
  ·cases h
  ·rename_i h1
   rcases nN (b.ent.map fO) (t,x) with h2|⟨k,h2,h3⟩
   ·exact absurd h2 h1
   ·rw [h2,bG] at he;refine⟨e,aM he,?_⟩;rw [bH,he] at h3;exact congrArg Prod.fst (aY h3)
theorem vE (b:Br) (t x:Id) (f:Int):(takeB b t x f).1.ent.length<=b.ent.length/\(takeB b t x f).2.1.length<=b.ent.length:=by
 unfold takeB
 split
 ·simp
 ·split
  ·simp
  ·split
   ·simp
   ·have hc:(cutAt b.ent (jh (b.ent.map fO) (t,x)).toNat).length<=b.ent.length:=by
     unfold cutAt;rw [aK,aN,bK];omega
    split
    ·exact⟨hc,by simp⟩
    ·have h1:=oW t (cutAt b.ent (jh (b.ent.map fO) (t,x)).toNat) (cutAt b.ent (jh (b.ent.map fO) (t,x)).toNat).length;exact⟨by rw [show ((jk t _ _).1.length)=_ from h1.1]; exact hc,Z h1.2 hc⟩
theorem xU {W x:aH} {b F0:Nat} {cs:Array aJ} {t:dw} (h:dJ W b cs t) (hb:Below F0 W x) (hl:b<F0):dJ x b cs t:=(hb.block b hl).trans h
def oV (W:Nat) (bv:aJ) (c d c2 d2:Int) (av:aJ) (ki:Nat) (p:bL) (iM:Int) (po:Option bL) (pn pc:Nat) (fr:Int) (up:Bool) (b3 b5:Nat) (i:Nat) (v:aJ) (x:aH):Prop :=
 match i with
 | 0=>v=bv
 | 1=>v=Y (O ⟨b3,2,X⟩)
 | 2=>v=av
 | 3=>v=bv
 | 4=>v=Y (O ⟨b5,1,X⟩)
 | 5=>v=mW (c,d)
 | 6=>v=U V (ki:Int)
 | 7=>v=Y (O p)
 | 8=>v=Y (O ⟨p.block,p.off+3,X⟩)
 | 9=>v=U V iM
 | 10=>v=nW (c,d,c2,d2,(po,pn,pc),fr,up)
 | 11=>v=aP #[U V 3,U V c,U V d,U V c2,U V d2,J po pn pc,J X 0 0]
 | 12=>v=xA (iM,3,c,d,c2,d2,(po,pn,pc),(X,0,0))
 | 13=>jT x W v [(iM,3,c,d,c2,d2,(po,pn,pc),(X,0,0))]
 | 15=>jT x W v [(iM,3,c,d,c2,d2,(po,pn,pc),(X,0,0))]
 | _=>True
def oF (W:aH) (b6:Nat) (bc:Array aJ) (D:Nat->Prop) (x:aH):Prop :=
 (∀ j,j<W.heap.size->j≠b6->x.heap[j]?=W.heap[j]?)/\(∀ B,B<=b6->Below B W x)/\(¬ D 14->Below W.heap.size W x)/\(D 14->dJ x b6 bc 28)/\W.heap.size<=x.heap.size
noncomputable def abX:Code:=((Tryz.f101.body.bind (eO 5)).getD .skip)
theorem agm (Q:Exit->Act->aH->Prop) (W:aH) (b3 b5 b6 b8:Nat) (me mk c d c2 d2 fr iM:Int) (up:Bool) (o1 o2 o3 o4 o5:Option bL) (n1 k1 n2 k2 n3 k3 n4 k4 n5 k5:Nat) (po qo:Option bL) (pn pc qn qc:Nat) (ad:List jv) (ki:Nat) (p:bL) (z0 z1 z2 z3 z4 z5:aJ) (u0 u1 u2 u4 u7 u9 u10 u11 u12 u13 u14 u15 u16 u17 u18 u19 u20 u21 u22 u23 u24 u25 u26 u27 u28 u29 u30 u31 u32 u33 u34 u35 u36 u37 u38 u39 u40:aJ)
  (h3:dJ W b3 #[U V me,J o1 n1 k1,J o2 n2 k2,J o3 n3 k3,J o4 n4 k4,J o5 n5 k5] 28) (h5:dJ W b5 #[U V mk,U V c,U V d,U V c2,U V d2,J po pn pc,J qo qn qc] 41) (h6:dJ W b6 #[z0,z1,z2,z3,z4,z5] 28) (h8:dJ W b8 #[U V c,U V d,U V c2,U V d2,J po pn pc,U V fr,aO up] 66) (n3_:b3≠b6) (n5_:b5≠b6) (n8_:b8≠b6) (hd:wZ W (J o2 n2 k2) ad) (fk:fM (ad.map fun y=>(y.1,y.2.1)) (c,d)=ki) (ix:∀ w,(Instr.indexAt 23 (J o2 n2 k2) (U V (ki:Int))).run aF w=.ok (Y (O p)) w) (px:W.cell? ⟨p.block,p.off+3,X⟩=O (U V iM)) (pl:p.block<W.heap.size) (pn_:p.block≠b6)
  (hQ:∀ (a:Act) (x:aH) (sl:Sl),a.defers=[]->a.tmps[6]?=O (Y (O ⟨b6,0,X⟩))->a.tmps[7]?=O (dY sl)->dJ x b6 #[U V me,J o1 n1 k1,J o2 n2 k2,J o3 n3 k3,J o4 n4 k4,J o5 n5 k5] 28->jT x W.heap.size (dY sl) [(iM,3,c,d,c2,d2,(po,pn,pc),(X,0,0))]->(∀ k,k<W.heap.size->k≠b6->x.heap[k]?=W.heap[k]?)->(∀ B,B<=b6->Below B W x)->Q .normal a x) :
  Code.wp aF abX Q ⟨(u0::u1::u2::Y (O ⟨b3,0,X⟩)::u4::Y (O ⟨b5,0,X⟩)::Y (O ⟨b6,0,X⟩)::u7::Y (O ⟨b8,0,X⟩)::u9::u10::u11::u12::u13::u14::u15::u16::u17::u18::u19::u20::u21::u22::u23::u24::u25::u26::u27::u28::u29::u30::u31::u32::u33::u34::u35::u36::u37::u38::u39::u40::[]).toArray,[]⟩ W:=by
 have HQ:=L hQ;have H3:=L h3;have H5:=L h5;have H6:=L h6;have H8:=L h8;have N3:=L n3_;have N5:=L n5_;have N8:=L n8_;have HD:=L hd;have FK:=L fk;have IX:=L ix;have PX:=L px;have PL:=L pl;have PN:=L pn_;clear hQ h3 h5 h6 h8 n3_ n5_ n8_ hd fk ix px pl pn_;unfold abX
 conv=>arg 2; whnf
 have nd:∀ j,(∀ i,i<16->[O 27,O 28,O 29,O 30,O 31,O 32,O 33,O 34,O 35,O 36,O 37,O 38,O 39,O 40,X,O 7].getD i X≠O j)->∀ i,i<16->(fun i=>[O 27,O 28,O 29,O 30,O 31,O 32,O 33,O 34,O 35,O 36,O 37,O 38,O 39,O 40,X,O 7].getD i X) i≠O j:=fun j h=>h;refine Rg.qg 16 (fun i=>[O 27,O 28,O 29,O 30,O 31,O 32,O 33,O 34,O 35,O 36,O 37,O 38,O 39,O 40,X,O 7].getD i X) (fun _=>16) (oV W.heap.size (aP #[U V me,J o1 n1 k1,J o2 n2 k2,J o3 n3 k3,J o4 n4 k4,J o5 n5 k5]) c d c2 d2 (J o2 n2 k2) ki p iM po pn pc fr up b3 b5) (oF W b6 #[U V me,J o1 n1 k1,J o2 n2 k2,J o3 n3 k3,J o4 n4 k4,J o5 n5 k5]) (by kernel_rfl) (by kernel_rfl) rfl (fun i j e hi hj h1 h2=>(by decide:∀ i,i<16->∀ j,j<16->([O 27,O 28,O 29,O 30,O 31,O 32,O 33,O 34,O 35,O 36,O 37,O 38,O 39,O 40,X,O 7].getD i X).isSome=aT->[O 27,O 28,O 29,O 30,O 31,O 32,O 33,O 34,O 35,O 36,O 37,O 38,O 39,O 40,X,O 7].getD i X=[O 27,O 28,O 29,O 30,O 31,O 32,O 33,O 34,O 35,O 36,O 37,O 38,O 39,O 40,X,O 7].getD j X->i=j) i hi j hj (by have h1:[O 27,O 28,O 29,O 30,O 31,O 32,O 33,O 34,O 35,O 36,O 37,O 38,O 39,O 40,X,O 7].getD i X=O e:=h1; rw [h1]; rfl) (h1.trans h2.symm)) (fun i e hi h=>(by decide:∀ i,i<16->∀ q∈[O 27,O 28,O 29,O 30,O 31,O 32,O 33,O 34,O 35,O 36,O 37,O 38,O 39,O 40,X,O 7].getD i X,q<41) i hi e h) ⟨fun _ _ _=>rfl,fun _ _=>(ak _ _).drew,fun _=>(ak _ _).drew,False.elim,aG _⟩ ?_ ?_
 ·intro i o hi ho a x D hnd hc hD hF seen K hK;clear HQ;have still:∀ i,i≠14->oF W b6 #[U V me,J o1 n1 k1,J o2 n2 k2,J o3 n3 k3,J o4 n4 k4,J o5 n5 k5] (fun j=>j=i\/D j) x:=fun i h9=>⟨hF.1,hF.2.1,fun h=>hF.2.2.1 fun h2=>h (aC h2),fun h=>hF.2.2.2.1 (h.resolve_left (Ne.symm h9)),hF.2.2.2.2⟩;rcases (by omega:i=0\/i=1\/i=2\/i=3\/i=4\/i=5\/i=6\/i=7\/i=8\/i=9\/i=10\/i=11\/i=12\/i=13\/i=14\/i=15) with rfl|rfl|rfl|rfl|rfl|rfl|rfl|rfl|rfl|rfl|rfl|rfl|rfl|rfl|rfl|rfl
  ·cases ho;have e3:a.eval (ah 3)=Y (O ⟨b3,0,X⟩):=seen.kp 3 _ (nd 3 (by decide)) rfl;have Wd:=show dJ x _ _ _ from (hF.1 _ H3.out.lt N3.out).trans H3.out;exact aD rfl rfl (bQ a.eval _ 28 (ah 3) rfl (by rw [e3]; exact tY Wd)) (hK _ _ rfl (still 0 (by decide)) fun _ _ _ _ _ _ _ h=>h)
  ·cases ho;have e3:a.eval (ah 3)=Y (O ⟨b3,0,X⟩):=seen.kp 3 _ (nd 3 (by decide)) rfl;exact aD rfl rfl (dh a.eval _ 28 (ah 3) 2 rfl (by rw [e3]; simp [go_sem])) (hK _ _ rfl (still 1 (by decide)) fun _ _ _ _ _ _ _ h=>h)
  ·cases ho;have e28:a.eval (ah 28)=Y (O ⟨b3,2,X⟩):=seen.at_ ⟨1,.data⟩ (by simp) rfl (aC (by decide)) _ rfl;have Wd:=show dJ x _ _ _ from (hF.1 _ H3.out.lt N3.out).trans H3.out;have y:=Wd.cell 2;simp only [au,ay,aA] at y;exact aD rfl rfl (bQ a.eval _ 23 (ah 28) rfl (by rw [e28]; simp [go_sem,y])) (hK _ _ rfl (still 2 (by decide)) fun _ _ _ _ _ _ _ h=>h)
  ·cases ho;have e3:a.eval (ah 3)=Y (O ⟨b3,0,X⟩):=seen.kp 3 _ (nd 3 (by decide)) rfl;have Wd:=show dJ x _ _ _ from (hF.1 _ H3.out.lt N3.out).trans H3.out;exact aD rfl rfl (bQ a.eval _ 28 (ah 3) rfl (by rw [e3]; exact tY Wd)) (hK _ _ rfl (still 3 (by decide)) fun _ _ _ _ _ _ _ h=>h)
  ·cases ho;have e5:a.eval (ah 5)=Y (O ⟨b5,0,X⟩):=seen.kp 5 _ (nd 5 (by decide)) rfl;exact aD rfl rfl (dh a.eval _ 41 (ah 5) 1 rfl (by rw [e5]; simp [go_sem])) (hK _ _ rfl (still 4 (by decide)) fun _ _ _ _ _ _ _ h=>h)
  ·cases ho;have e31:a.eval (ah 31)=Y (O ⟨b5,1,X⟩):=seen.at_ ⟨4,.data⟩ (by simp) rfl (aC (by decide)) _ rfl;have aiP:=show dJ x _ _ _ from (hF.1 _ H5.out.lt N5.out).trans H5.out;have y1:=aiP.cell 1;have y2:=aiP.cell 2;simp only [au,ay,aA] at y1 y2;exact aD rfl rfl (bQ a.eval _ 31 (ah 31) rfl (by rw [e31]; simp [go_sem,y1,y2])) (hK _ _ rfl (still 5 (by decide)) fun _ _ _ _ _ _ _ h=>h)
  ·cases ho;have e30:a.eval (ah 30)=aP #[U V me,J o1 n1 k1,J o2 n2 k2,J o3 n3 k3,J o4 n4 k4,J o5 n5 k5]:=seen.at_ ⟨3,.data⟩ (by simp) rfl (aC (by decide)) _ rfl;have e32:a.eval (ah 32)=mW (c,d):=seen.at_ ⟨5,.data⟩ (by simp) rfl (aC (by decide)) _ rfl;have nS:¬ D 14:=fun h=>hnd (hc 11 _ (hc 14 _ h rfl ⟨11,.chain⟩ (by simp) rfl) rfl ⟨6,.chain⟩ (by simp) rfl);have hb:=hF.2.2.1 nS;have n13:¬ D 13:=fun h=>hnd (hc 11 _ (hc 12 _ (hc 13 _ h rfl ⟨12,.data⟩ (by simp) rfl) rfl ⟨11,.data⟩ (by simp) rfl) rfl ⟨6,.chain⟩ (by simp) rfl);exact Rg.gL rfl rfl (tN a.eval _ (ah 30) (ah 32) 28 31 104 rfl e30 e32 rfl _ (gD Tryz.func104 rfl rfl _ _)) (uO me _ _ _ _ (o2,n2,k2) ad (c,d) x (HD.out.on hb)) fun e w1 h=>by
    obtain⟨rfl,h3⟩:=h;refine⟨_,rfl,hK _ _ (by rw [FK.out]; rfl) ⟨fun j hj hne=>(h3.block j (aR hj hb.size)).trans (hF.1 j hj hne),fun B hB=>(hF.2.1 B hB).trans (h3.mono (Z (Z hB (aU H6.out.lt)) hb.size)),fun _=>hb.trans (h3.mono hb.size),fun h=>absurd (h.resolve_left (by decide)) nS,Z hb.size h3.size⟩ fun j u hj dj _ _ _ h=>?_⟩;rcases (by omega:j=0\/j=1\/j=2\/j=3\/j=4\/j=5\/j=6\/j=7\/j=8\/j=9\/j=10\/j=11\/j=12\/j=13\/j=14\/j=15) with rfl|rfl|rfl|rfl|rfl|rfl|rfl|rfl|rfl|rfl|rfl|rfl|rfl|rfl|rfl|rfl
    ·exact h
    ·exact h
    ·exact h
    ·exact h
    ·exact h
    ·exact h
    ·exact h
    ·exact h
    ·exact h
    ·exact h
    ·exact h
    ·exact h
    ·exact h
    ·exact absurd dj n13
    ·exact h
    ·exact absurd (hc 15 _ dj rfl ⟨13,.data⟩ (by simp) rfl) n13
  ·cases ho;have e29:a.eval (ah 29)=J o2 n2 k2:=seen.at_ ⟨2,.data⟩ (by simp) rfl (aC (by decide)) _ rfl;have e33:a.eval (ah 33)=U V (ki:Int):=seen.at_ ⟨6,.data⟩ (by simp) rfl (aC (by decide)) _ rfl;exact aD rfl rfl (Rg.pE a.eval _ 23 (ah 29) (ah 33) rfl (by rw [e29,e33]; exact IX.out x)) (hK _ _ rfl (still 7 (by decide)) fun _ _ _ _ _ _ _ h=>h)
  ·cases ho;have e34:a.eval (ah 34)=Y (O p):=seen.at_ ⟨7,.data⟩ (by simp) rfl (aC (by decide)) _ rfl;exact aD rfl rfl (dh a.eval _ 74 (ah 34) 2 rfl (by rw [e34]; simp [go_sem])) (hK _ _ rfl (still 8 (by decide)) fun _ _ _ _ _ _ _ h=>h)
  ·cases ho;have e35:a.eval (ah 35)=Y (O ⟨p.block,p.off+3,X⟩):=seen.at_ ⟨8,.data⟩ (by simp) rfl (aC (by decide)) _ rfl;have y:x.cell? ⟨p.block,p.off+3,X⟩=O (U V iM):=by
    have h:=PX.out;unfold World.cell? at h ⊢;rw [hF.1 _ PL.out PN.out];exact h
   exact aD rfl rfl (bQ a.eval _ 3 (ah 35) rfl (by rw [e35]; simp [go_sem,y])) (hK _ _ rfl (still 9 (by decide)) fun _ _ _ _ _ _ _ h=>h)
  ·cases ho;have e8:a.eval (ah 8)=Y (O ⟨b8,0,X⟩):=seen.kp 8 _ (nd 8 (by decide)) rfl;have alF:=show dJ x _ _ _ from (hF.1 _ H8.out.lt N8.out).trans H8.out;obtain⟨y0,y1,y2,y3,y4,y5,y6⟩:=alF.nJ;exact aD rfl rfl (bQ a.eval _ 66 (ah 8) rfl (by rw [e8]; simp [go_sem,y0,y1,y2,y3,y4,y5,y6])) (hK _ _ rfl (still 10 (by decide)) fun _ _ _ _ _ _ _ h=>h)
  ·cases ho;have e37:a.eval (ah 37)=nW (c,d,c2,d2,(po,pn,pc),fr,up):=seen.at_ ⟨10,.data⟩ (by simp) rfl (aC (by decide)) _ rfl;have nS:¬ D 14:=fun h=>hnd (hc 14 _ h rfl ⟨11,.chain⟩ (by simp) rfl);have hb:=hF.2.2.1 nS;have n13:¬ D 13:=fun h=>hnd (hc 12 _ (hc 13 _ h rfl ⟨12,.data⟩ (by simp) rfl) rfl ⟨11,.data⟩ (by simp) rfl);exact Rg.gL rfl rfl (iB a.eval _ (ah 37) 66 48 rfl e37 rfl _ (gD Tryz.func48 rfl rfl _ _)) (Au (c,d,c2,d2,(po,pn,pc),fr,up) x) fun e w1 h=>by
    obtain⟨rfl,h3⟩:=h;refine⟨_,rfl,hK _ _ rfl ⟨fun j hj hne=>(h3.block j (aR hj hb.size)).trans (hF.1 j hj hne),fun B hB=>(hF.2.1 B hB).trans (h3.mono (Z (Z hB (aU H6.out.lt)) hb.size)),fun _=>hb.trans (h3.mono hb.size),fun h=>absurd (h.resolve_left (by decide)) nS,Z hb.size h3.size⟩ fun j u hj dj _ _ _ h=>?_⟩;rcases (by omega:j=0\/j=1\/j=2\/j=3\/j=4\/j=5\/j=6\/j=7\/j=8\/j=9\/j=10\/j=11\/j=12\/j=13\/j=14\/j=15) with rfl|rfl|rfl|rfl|rfl|rfl|rfl|rfl|rfl|rfl|rfl|rfl|rfl|rfl|rfl|rfl
    ·exact h
    ·exact h
    ·exact h
    ·exact h
    ·exact h
    ·exact h
    ·exact h
    ·exact h
    ·exact h
    ·exact h
    ·exact h
    ·exact h
    ·exact h
    ·exact absurd dj n13
    ·exact h
    ·exact absurd (hc 15 _ dj rfl ⟨13,.data⟩ (by simp) rfl) n13
  ·cases ho;have e36:a.eval (ah 36)=U V iM:=seen.at_ ⟨9,.data⟩ (by simp) rfl (aC (by decide)) _ rfl;have e38:a.eval (ah 38)=aP #[U V 3,U V c,U V d,U V c2,U V d2,J po pn pc,J X 0 0]:=seen.at_ ⟨11,.data⟩ (by simp) rfl (aC (by decide)) _ rfl;exact aD rfl rfl (Rg.jZ a.eval _ 43 #[(0,ah 36),(1,ah 38)] rfl (ps:=#[(0,U V iM),(1,aP #[U V 3,U V c,U V d,U V c2,U V d2,J po pn pc,J X 0 0])]) (by simp only [aV,bJ,bM,e36,e38]) (by simp [go_sem])) (hK _ _ rfl (still 12 (by decide)) fun _ _ _ _ _ _ _ h=>h)
  ·cases ho;have e39:a.eval (ah 39)=xA (iM,3,c,d,c2,d2,(po,pn,pc),(X,0,0)):=seen.at_ ⟨12,.data⟩ (by simp) rfl (aC (by decide)) _ rfl;have n15:¬ D 15:=fun h=>hnd (hc 15 _ h rfl ⟨13,.data⟩ (by simp) rfl);have hl:=jm EK x [((iM,3,c,d,c2,d2,(po,pn,pc),(X,0,0)):mE)] 1 rfl (by simp) (lH (iM,3,c,d,c2,d2,(po,pn,pc),(X,0,0))).toArray (by simp [flat,EU]);have nb:=fF x (aj (lH (iM,3,c,d,c2,d2,(po,pn,pc),(X,0,0))).toArray 43);have sz:=hF.2.2.2.2;have ff:oF W b6 #[U V me,J o1 n1 k1,J o2 n2 k2,J o3 n3 k3,J o4 n4 k4,J o5 n5 k5] (fun j=>j=13\/D j) (x.alloc (aj (lH (iM,3,c,d,c2,d2,(po,pn,pc),(X,0,0))).toArray 43)):=⟨fun j hj hne=>(nb.block j (aR hj sz)).trans (hF.1 j hj hne),fun B hB=>(hF.2.1 B hB).trans (nb.mono (Z (Z hB (aU H6.out.lt)) sz)),fun h=>(hF.2.2.1 fun q=>h (aC q)).trans (nb.mono sz),fun h=>(hF.2.2.2.1 (h.resolve_left (by decide))).on nb,Z sz nb.size⟩;have st:∀ j u,j<16->D j->j≠13->oV W.heap.size (aP #[U V me,J o1 n1 k1,J o2 n2 k2,J o3 n3 k3,J o4 n4 k4,J o5 n5 k5]) c d c2 d2 (J o2 n2 k2) ki p iM po pn pc fr up b3 b5 j u x->oV W.heap.size (aP #[U V me,J o1 n1 k1,J o2 n2 k2,J o3 n3 k3,J o4 n4 k4,J o5 n5 k5]) c d c2 d2 (J o2 n2 k2) ki p iM po pn pc fr up b3 b5 j u (x.alloc (aj (lH (iM,3,c,d,c2,d2,(po,pn,pc),(X,0,0))).toArray 43)):=fun j u hj dj ni h=>by
    rcases (by omega:j=0\/j=1\/j=2\/j=3\/j=4\/j=5\/j=6\/j=7\/j=8\/j=9\/j=10\/j=11\/j=12\/j=13\/j=14\/j=15) with rfl|rfl|rfl|rfl|rfl|rfl|rfl|rfl|rfl|rfl|rfl|rfl|rfl|rfl|rfl|rfl
    ·exact h
    ·exact h
    ·exact h
    ·exact h
    ·exact h
    ·exact h
    ·exact h
    ·exact h
    ·exact h
    ·exact h
    ·exact h
    ·exact h
    ·exact h
    ·exact absurd rfl ni
    ·exact h
    ·exact absurd dj n15
   have q:=hK (J (O ⟨x.heap.size,0,X⟩) 1 1) (x.alloc (aj (lH (iM,3,c,d,c2,d2,(po,pn,pc),(X,0,0))).toArray 43)) (dM hl sz) ff fun j u hj dj _ _ ni h=>st j u hj dj ni h;exact aD rfl rfl (dx a.eval _ 35 1 #[(0,ah 39)] rfl (ps:=#[(0,xA (iM,3,c,d,c2,d2,(po,pn,pc),(X,0,0)))]) (by simp [e39]) (by simp [go_sem])) q
  ·cases ho;have e27:a.eval (ah 27)=aP #[U V me,J o1 n1 k1,J o2 n2 k2,J o3 n3 k3,J o4 n4 k4,J o5 n5 k5]:=seen.at_ ⟨0,.data⟩ (by simp) rfl (aC (by decide)) _ rfl;have e6:a.eval (ah 6)=Y (O ⟨b6,0,X⟩):=seen.kp 6 _ (nd 6 (by decide)) rfl;have hb:=hF.2.2.1 hnd;have H6x:=H6.out.on hb;have s4:=dN x b6 (U V me) (J o1 n1 k1) (J o2 n2 k2) (J o3 n3 k3) (J o4 n4 k4) (J o5 n5 k5);have hx:=dK H6x (U V me) (J o1 n1 k1) (J o2 n2 k2) (J o3 n3 k3) (J o4 n4 k4) (J o5 n5 k5);have hs:=oC H6x me o1 o2 o3 o4 o5 n1 k1 n2 k2 n3 k3 n4 k4 n5 k5;have hy:∀ B,B<=b6->Below B W (gN x b6 (U V me) (J o1 n1 k1) (J o2 n2 k2) (J o3 n3 k3) (J o4 n4 k4) (J o5 n5 k5)):=fun B hB=>dG (hF.2.1 B hB) hB _ _ _ _ _ _;have so:∀ v l,jT x W.heap.size v l->jT (gN x b6 (U V me) (J o1 n1 k1) (J o2 n2 k2) (J o3 n3 k3) (J o4 n4 k4) (J o5 n5 k5)) W.heap.size v l:=fun v l h=>fI h b6 H6.out.lt _ _ _ _ _ _;have sz:x.heap.size<=(gN x b6 (U V me) (J o1 n1 k1) (J o2 n2 k2) (J o3 n3 k3) (J o4 n4 k4) (J o5 n5 k5)).heap.size:=by simp [gN]
   generalize gN x b6 (U V me) (J o1 n1 k1) (J o2 n2 k2) (J o3 n3 k3) (J o4 n4 k4) (J o5 n5 k5)=x2 at *;have n15:¬ D 15:=fun h=>hnd (hc 15 _ h rfl ⟨14,.chain⟩ (by simp) rfl);have ff:oF W b6 #[U V me,J o1 n1 k1,J o2 n2 k2,J o3 n3 k3,J o4 n4 k4,J o5 n5 k5] (fun j=>j=14\/D j) x2:=⟨fun j hj hne=>(s4 j hne).trans (hF.1 j hj hne),hy,fun h=>absurd (bI rfl) h,fun _=>hx,Z hF.2.2.2.2 sz⟩;have st:∀ j u,j<16->D j->oV W.heap.size (aP #[U V me,J o1 n1 k1,J o2 n2 k2,J o3 n3 k3,J o4 n4 k4,J o5 n5 k5]) c d c2 d2 (J o2 n2 k2) ki p iM po pn pc fr up b3 b5 j u x->oV W.heap.size (aP #[U V me,J o1 n1 k1,J o2 n2 k2,J o3 n3 k3,J o4 n4 k4,J o5 n5 k5]) c d c2 d2 (J o2 n2 k2) ki p iM po pn pc fr up b3 b5 j u x2:=fun j u hj dj h=>by
    rcases (by omega:j=0\/j=1\/j=2\/j=3\/j=4\/j=5\/j=6\/j=7\/j=8\/j=9\/j=10\/j=11\/j=12\/j=13\/j=14\/j=15) with rfl|rfl|rfl|rfl|rfl|rfl|rfl|rfl|rfl|rfl|rfl|rfl|rfl|rfl|rfl|rfl
    ·exact h
    ·exact h
    ·exact h
    ·exact h
    ·exact h
    ·exact h
    ·exact h
    ·exact h
    ·exact h
    ·exact h
    ·exact h
    ·exact h
    ·exact h
    ·exact so _ _ h
    ·exact h
    ·exact absurd dj n15
   have q:=hK (aO aT) x2 trivial ff fun j u hj dj _ _ _ h=>st j u hj dj h;have q2:K a x2:=q;exact Rg.fT 28 (ah 6) (ah 27) rfl rfl rfl rfl e6 e27 hs q2
  ·cases ho;have o40:jT x W.heap.size (a.eval (ah 40)) [(iM,3,c,d,c2,d2,(po,pn,pc),(X,0,0))]:=seen.at_ ⟨13,.data⟩ (by simp) rfl (aC (by decide)) _ rfl;exact aD rfl rfl (Rg.jJ a.eval _ (ah 40) rfl x) (hK _ _ o40 (still 15 (by decide)) fun _ _ _ _ _ _ _ h=>h)
 ·intro a x df sz kp ⟨vs,hv⟩ ⟨D,hall,hF⟩;have h2:jT x W.heap.size (vs 15) [(iM,3,c,d,c2,d2,(po,pn,pc),(X,0,0))]:=(hv 15 (by omega)).2 (by decide);have g9:a.tmps[7]?=O (vs 15):=(hv 15 (by omega)).1 7 rfl;obtain⟨sa,sc,hs⟩:=(aL h2).len;rw [hs] at h2 g9;exact HQ.out a x (sa,_,sc) df ((kp 6 (nd 6 (by decide))).trans rfl) g9 (hF.2.2.2.1 (hall 14 (by omega))) h2 hF.1 hF.2.1
def dV (W F0:Nat) (bv rv:aJ) (iM c d c2 d2:Int) (lo:List mE) (i:Nat) (v:aJ) (x:aH):Prop :=
 match i with
 | 0=>v=bv
 | 1=>v=rv
 | 2=>v=U V iM
 | 3=>v=mW (c,d)
 | 4=>v=mW (c2,d2)
 | 5=>v=aP #[U V 4,U V c,U V d,U V c2,U V d2,J X 0 0,J X 0 0]
 | 6=>v=xA (iM,4,c,d,c2,d2,(X,0,0),(X,0,0))
 | 7=>jT x W v [(iM,4,c,d,c2,d2,(X,0,0),(X,0,0))]
 | 8=>∃ sl:Sl,v=dY sl/\jT x F0 v (lo++[(iM,4,c,d,c2,d2,(X,0,0),(X,0,0))])
 | 10=>∃ sl:Sl,v=dY sl/\jT x F0 v (lo++[(iM,4,c,d,c2,d2,(X,0,0),(X,0,0))])
 | _=>True
def dF (W:aH) (F0 b4 b5 b6 b8:Nat) (bc:Array aJ) (c d c2 d2:Int) (D:Nat->Prop) (x:aH):Prop :=
 (dJ x b4 bc 28/\dJ x b5 #[U V c,U V d] 31/\dJ x b6 #[U V c2,U V d2] 31)/\(¬ D 8->Below W.heap.size W x)/\(¬ D 9->Below F0 W x)/\(D 9->dJ x b8 bc 28/\(∀ j,j<F0->j≠b8->x.heap[j]?=W.heap[j]?)/\∀ B,B<=b8->Below B W x)
noncomputable def PD:Code:=((Tryz.f100.body.bind (eO 11)).getD .skip)
theorem Wh (Q:Exit->Act->aH->Prop) (W:aH) (F0 b4 b5 b6 b8:Nat) (me iM c d c2 d2:Int) (o1 o2 o3 o4 o5:Option bL) (n1 k1 n2 k2 n3 k3 n4 k4 n5 k5:Nat) (rv:aJ) (lo:List mE) (z0 z1 z2 z3 z4 z5:aJ) (u0 u1 u2 u3 u7 u9 u10 u11 u14 u15 u16 u17 u18 u19 u20 u21 u22 u23 u24 u25 u26 u27 u28 u29 u30 u31 u32 u33 u34 u35 u36 u37 u38 u39 u40 u41 u42 u43 u44 u45 u46 u47 u48 u49 u50 u51 u52 u53 u54 u55 u56 u57 u58:aJ)
  (h4:dJ W b4 #[U V me,J o1 n1 k1,J o2 n2 k2,J o3 n3 k3,J o4 n4 k4,J o5 n5 k5] 28) (h5:dJ W b5 #[U V c,U V d] 31) (h6:dJ W b6 #[U V c2,U V d2] 31) (h8:dJ W b8 #[z0,z1,z2,z3,z4,z5] 28) (l4:b4<F0) (l5:b5<F0) (l6:b6<F0) (l8:b8<F0) (n4_:b4≠b8) (n5_:b5≠b8) (n6_:b6≠b8) (fw:F0<=W.heap.size) (hown:jT W F0 rv lo) (hlen:lo.length<=1000)
  (hQ:∀ (a:Act) (x:aH) (sl:Sl),a.defers=[]->a.tmps[8]?=O (Y (O ⟨b8,0,X⟩))->a.tmps[9]?=O (dY sl)->dJ x b8 #[U V me,J o1 n1 k1,J o2 n2 k2,J o3 n3 k3,J o4 n4 k4,J o5 n5 k5] 28->jT x F0 (dY sl) (lo++[(iM,4,c,d,c2,d2,(X,0,0),(X,0,0))])->(∀ k,k<F0->k≠b8->x.heap[k]?=W.heap[k]?)->(∀ B,B<=b8->Below B W x)->Q .normal a x) :
  Code.wp aF PD Q ⟨(u0::u1::u2::u3::Y (O ⟨b4,0,X⟩)::Y (O ⟨b5,0,X⟩)::Y (O ⟨b6,0,X⟩)::u7::Y (O ⟨b8,0,X⟩)::u9::u10::u11::U V iM::rv::u14::u15::u16::u17::u18::u19::u20::u21::u22::u23::u24::u25::u26::u27::u28::u29::u30::u31::u32::u33::u34::u35::u36::u37::u38::u39::u40::u41::u42::u43::u44::u45::u46::u47::u48::u49::u50::u51::u52::u53::u54::u55::u56::u57::u58::[]).toArray,[]⟩ W:=by
 have HQ:=L hQ;have H4:=L h4;have H5:=L h5;have H6:=L h6;have H8:=L h8;have L4:=L l4;have L5:=L l5;have L6:=L l6;have L8:=L l8;have N4:=L n4_;have N5:=L n5_;have N6:=L n6_;have FW:=L fw;have HO:=L hown;have HL:=L hlen;clear hQ h4 h5 h6 h8 l4 l5 l6 l8 n4_ n5_ n6_ fw hown hlen;unfold PD
 conv=>arg 2; whnf
 have nd:∀ j,(∀ i,i<11->[O 50,O 51,O 52,O 53,O 54,O 55,O 56,O 57,O 58,X,O 9].getD i X≠O j)->∀ i,i<11->(fun i=>[O 50,O 51,O 52,O 53,O 54,O 55,O 56,O 57,O 58,X,O 9].getD i X) i≠O j:=fun j h=>h;refine Rg.qg 11 (fun i=>[O 50,O 51,O 52,O 53,O 54,O 55,O 56,O 57,O 58,X,O 9].getD i X) (fun i=>if i=7 then 8 else 11) (dV W.heap.size F0 (aP #[U V me,J o1 n1 k1,J o2 n2 k2,J o3 n3 k3,J o4 n4 k4,J o5 n5 k5]) rv iM c d c2 d2 lo) (dF W F0 b4 b5 b6 b8 #[U V me,J o1 n1 k1,J o2 n2 k2,J o3 n3 k3,J o4 n4 k4,J o5 n5 k5] c d c2 d2) (by kernel_rfl) (by kernel_rfl) rfl (fun i j e hi hj h1 h2=>(by decide:∀ i,i<11->∀ j,j<11->([O 50,O 51,O 52,O 53,O 54,O 55,O 56,O 57,O 58,X,O 9].getD i X).isSome=aT->[O 50,O 51,O 52,O 53,O 54,O 55,O 56,O 57,O 58,X,O 9].getD i X=[O 50,O 51,O 52,O 53,O 54,O 55,O 56,O 57,O 58,X,O 9].getD j X->i=j) i hi j hj (by have h1:[O 50,O 51,O 52,O 53,O 54,O 55,O 56,O 57,O 58,X,O 9].getD i X=O e:=h1; rw [h1]; rfl) (h1.trans h2.symm)) (fun i e hi h=>(by decide:∀ i,i<11->∀ q∈[O 50,O 51,O 52,O 53,O 54,O 55,O 56,O 57,O 58,X,O 9].getD i X,q<59) i hi e h) ⟨⟨H4.out,H5.out,H6.out⟩,fun _=>(ak _ _).drew,fun _=>(ak _ _).drew,False.elim⟩ ?_ ?_
 ·intro i o hi ho a x D hnd hc hD hF seen K hK;clear HQ;have still:∀ i,i≠8->i≠9->dF W F0 b4 b5 b6 b8 #[U V me,J o1 n1 k1,J o2 n2 k2,J o3 n3 k3,J o4 n4 k4,J o5 n5 k5] c d c2 d2 (fun j=>j=i\/D j) x:=fun i h8 h9=>⟨hF.1,fun h=>hF.2.1 fun h2=>h (aC h2),fun h=>hF.2.2.1 fun h2=>h (aC h2),fun h=>hF.2.2.2 (h.resolve_left (Ne.symm h9))⟩;rcases (by omega:i=0\/i=1\/i=2\/i=3\/i=4\/i=5\/i=6\/i=7\/i=8\/i=9\/i=10) with rfl|rfl|rfl|rfl|rfl|rfl|rfl|rfl|rfl|rfl|rfl
  ·cases ho;have e4:a.eval (ah 4)=Y (O ⟨b4,0,X⟩):=seen.kp 4 _ (nd 4 (by decide)) rfl;exact aD rfl rfl (bQ a.eval _ 28 (ah 4) rfl (by rw [e4]; exact tY hF.1.1)) (hK _ _ rfl (still 0 (by decide) (by decide)) fun _ _ _ _ _ _ _ h=>h)
  ·cases ho;have e13:a.eval (ah 13)=rv:=seen.kp 13 _ (nd 13 (by decide)) rfl;exact aD rfl rfl (cO a.eval _ (ah 13) rfl x) (hK _ _ e13 (still 1 (by decide) (by decide)) fun _ _ _ _ _ _ _ h=>h)
  ·cases ho;have e12:a.eval (ah 12)=U V iM:=seen.kp 12 _ (nd 12 (by decide)) rfl;exact aD rfl rfl (cO a.eval _ (ah 12) rfl x) (hK _ _ e12 (still 2 (by decide) (by decide)) fun _ _ _ _ _ _ _ h=>h)
  ·cases ho;have e5:a.eval (ah 5)=Y (O ⟨b5,0,X⟩):=seen.kp 5 _ (nd 5 (by decide)) rfl;exact aD rfl rfl (bQ a.eval _ 31 (ah 5) rfl (by rw [e5]; exact Ej x _ (c,d) (OM hF.1.2.1))) (hK _ _ rfl (still 3 (by decide) (by decide)) fun _ _ _ _ _ _ _ h=>h)
  ·cases ho;have e6:a.eval (ah 6)=Y (O ⟨b6,0,X⟩):=seen.kp 6 _ (nd 6 (by decide)) rfl;exact aD rfl rfl (bQ a.eval _ 31 (ah 6) rfl (by rw [e6]; exact Ej x _ (c2,d2) (OM hF.1.2.2))) (hK _ _ rfl (still 4 (by decide) (by decide)) fun _ _ _ _ _ _ _ h=>h)
  ·cases ho;have e53:a.eval (ah 53)=mW (c,d):=seen.at_ ⟨3,.data⟩ (by simp) rfl (aC (by decide)) _ rfl;have e54:a.eval (ah 54)=mW (c2,d2):=seen.at_ ⟨4,.data⟩ (by simp) rfl (aC (by decide)) _ rfl;exact aD rfl rfl (Rg.jZ a.eval _ 41 #[(0,.const (U V 4)),(1,ah 53),(2,ah 54)] rfl (ps:=#[(0,U V 4),(1,mW (c,d)),(2,mW (c2,d2))]) (by simp only [aV,bJ,bM,e53,e54]; rfl) (by simp [go_sem])) (hK _ _ rfl (still 5 (by decide) (by decide)) fun _ _ _ _ _ _ _ h=>h)
  ·cases ho;have e52:a.eval (ah 52)=U V iM:=seen.at_ ⟨2,.data⟩ (by simp) rfl (aC (by decide)) _ rfl;have e55:a.eval (ah 55)=aP #[U V 4,U V c,U V d,U V c2,U V d2,J X 0 0,J X 0 0]:=seen.at_ ⟨5,.data⟩ (by simp) rfl (aC (by decide)) _ rfl;exact aD rfl rfl (Rg.jZ a.eval _ 43 #[(0,ah 52),(1,ah 55)] rfl (ps:=#[(0,U V iM),(1,aP #[U V 4,U V c,U V d,U V c2,U V d2,J X 0 0,J X 0 0])]) (by simp only [aV,bJ,bM,e52,e55]) (by simp [go_sem])) (hK _ _ rfl (still 6 (by decide) (by decide)) fun _ _ _ _ _ _ _ h=>h)
  ·cases ho;have e56:a.eval (ah 56)=xA (iM,4,c,d,c2,d2,(X,0,0),(X,0,0)):=seen.at_ ⟨6,.data⟩ (by simp) rfl (aC (by decide)) _ rfl;have n8:¬ D 8:=fun h=>hnd (hc 8 _ h rfl ⟨7,.data⟩ (by simp) rfl);have n9:¬ D 9:=fun h=>n8 (hc 9 _ h rfl ⟨8,.chain⟩ (by simp) rfl);have hb:=hF.2.1 n8;have hl:=jm EK x [((iM,4,c,d,c2,d2,(X,0,0),(X,0,0)):mE)] 1 rfl (by simp) (lH (iM,4,c,d,c2,d2,(X,0,0),(X,0,0))).toArray (by simp [flat,EU]);have nb:=fF x (aj (lH (iM,4,c,d,c2,d2,(X,0,0),(X,0,0))).toArray 43);exact aD rfl rfl (dx a.eval _ 35 1 #[(0,ah 56)] rfl (ps:=#[(0,xA (iM,4,c,d,c2,d2,(X,0,0),(X,0,0)))]) (by simp [e56]) (by simp [go_sem])) (hK (J (O ⟨x.heap.size,0,X⟩) 1 1) (x.alloc (aj (lH (iM,4,c,d,c2,d2,(X,0,0),(X,0,0))).toArray 43)) (dM hl hb.size) ⟨⟨hF.1.1.on nb,hF.1.2.1.on nb,hF.1.2.2.on nb⟩,fun _=>hb.trans (nb.mono hb.size),fun _=>(hb.trans (nb.mono hb.size)).mono FW.out,fun h=>absurd (h.resolve_left (by decide)) n9⟩ fun j u hj dj nl nx ni h=>by
    rcases (by omega:j=0\/j=1\/j=2\/j=3\/j=4\/j=5\/j=6\/j=7\/j=8\/j=9\/j=10) with rfl|rfl|rfl|rfl|rfl|rfl|rfl|rfl|rfl|rfl|rfl
    ·exact h
    ·exact h
    ·exact h
    ·exact h
    ·exact h
    ·exact h
    ·exact h
    ·exact absurd rfl ni
    ·exact absurd dj n8
    ·exact h
    ·exact absurd (hc 10 _ dj rfl ⟨8,.data⟩ (by simp) rfl) n8)
  ·cases ho;have e51:a.eval (ah 51)=rv:=seen.at_ ⟨1,.data⟩ (by simp) rfl (aC (by decide)) _ rfl;have o57:jT x W.heap.size (a.eval (ah 57)) [(iM,4,c,d,c2,d2,(X,0,0),(X,0,0))]:=seen.at_ ⟨7,.data⟩ (by simp) rfl (bI rfl) _ rfl;have hb:=hF.2.1 hnd;have n9:¬ D 9:=fun h=>hnd (hc 9 _ h rfl ⟨8,.chain⟩ (by simp) rfl);have n10:¬ D 10:=fun h=>hnd (hc 10 _ h rfl ⟨8,.data⟩ (by simp) rfl);obtain⟨v',x',r,o',gr⟩:=gY EK F0 (Bk.dI HO.out hb) (aL o57) HL.out (by simp) (Z FW.out hb.size) 35;obtain⟨sa,sc,hsv⟩:=(aL o').len;have hb2:Below F0 W x':=(hb.mono FW.out).grown gr (Z FW.out hb.size) fun j hj=>((Bk.dI HO.out hb).lt j hj).1;have vv:dV W.heap.size F0 (aP #[U V me,J o1 n1 k1,J o2 n2 k2,J o3 n3 k3,J o4 n4 k4,J o5 n5 k5]) rv iM c d c2 d2 lo 8 v' x':=⟨(sa,(lo++[(iM,4,c,d,c2,d2,(X,0,0),(X,0,0))]).length,sc),hsv,o'⟩;have ff:dF W F0 b4 b5 b6 b8 #[U V me,J o1 n1 k1,J o2 n2 k2,J o3 n3 k3,J o4 n4 k4,J o5 n5 k5] c d c2 d2 (fun j=>j=8\/D j) x':=⟨⟨xU H4.out hb2 L4.out,xU H5.out hb2 L5.out,xU H6.out hb2 L6.out⟩,fun h=>absurd (bI rfl) h,fun _=>hb2,fun h=>absurd (h.resolve_left (by decide)) n9⟩;have st:∀ j u,j<11->D j->(fun i=>if i=7 then 8 else 11) j≠8->j≠8->dV W.heap.size F0 (aP #[U V me,J o1 n1 k1,J o2 n2 k2,J o3 n3 k3,J o4 n4 k4,J o5 n5 k5]) rv iM c d c2 d2 lo j u x->dV W.heap.size F0 (aP #[U V me,J o1 n1 k1,J o2 n2 k2,J o3 n3 k3,J o4 n4 k4,J o5 n5 k5]) rv iM c d c2 d2 lo j u x':=fun j u hj dj nx ni h=>by
    rcases (by omega:j=0\/j=1\/j=2\/j=3\/j=4\/j=5\/j=6\/j=7\/j=8\/j=9\/j=10) with rfl|rfl|rfl|rfl|rfl|rfl|rfl|rfl|rfl|rfl|rfl
    ·exact h
    ·exact h
    ·exact h
    ·exact h
    ·exact h
    ·exact h
    ·exact h
    ·exact absurd rfl nx
    ·exact absurd rfl ni
    ·exact h
    ·exact absurd dj n10
   have q:=hK v' x' vv ff fun j u hj dj _ nx ni h=>st j u hj dj nx ni h;exact aD rfl rfl (dn a.eval _ (ah 51) (ah 57) 35 rfl e51 rfl r) q
  ·cases ho;have e50:a.eval (ah 50)=aP #[U V me,J o1 n1 k1,J o2 n2 k2,J o3 n3 k3,J o4 n4 k4,J o5 n5 k5]:=seen.at_ ⟨0,.data⟩ (by simp) rfl (aC (by decide)) _ rfl;have e8:a.eval (ah 8)=Y (O ⟨b8,0,X⟩):=seen.kp 8 _ (nd 8 (by decide)) rfl;obtain⟨sl,h58,o58⟩:∃ sl:Sl,a.eval (ah 58)=dY sl/\jT x F0 (a.eval (ah 58)) (lo++[(iM,4,c,d,c2,d2,(X,0,0),(X,0,0))]):=seen.at_ ⟨8,.chain⟩ (by simp) rfl (aC (by decide)) _ rfl;have hb:=hF.2.2.1 hnd;have H8x:=xU H8.out hb L8.out;have s4:=dN x b8 (U V me) (J o1 n1 k1) (J o2 n2 k2) (J o3 n3 k3) (J o4 n4 k4) (J o5 n5 k5);have d8:D 8:=hD ⟨8,.chain⟩ (by simp) rfl;have n10:¬ D 10:=fun h=>hnd (hc 10 _ h rfl ⟨9,.chain⟩ (by simp) rfl);have hx:=dK H8x (U V me) (J o1 n1 k1) (J o2 n2 k2) (J o3 n3 k3) (J o4 n4 k4) (J o5 n5 k5);have hy:∀ B,B<=b8->Below B W (gN x b8 (U V me) (J o1 n1 k1) (J o2 n2 k2) (J o3 n3 k3) (J o4 n4 k4) (J o5 n5 k5)):=fun B hB=>dG (hb.mono (aU (bD hB L8.out))) hB _ _ _ _ _ _;have hs:=oC H8x me o1 o2 o3 o4 o5 n1 k1 n2 k2 n3 k3 n4 k4 n5 k5;have so:∀ v l,jT x F0 v l->jT (gN x b8 (U V me) (J o1 n1 k1) (J o2 n2 k2) (J o3 n3 k3) (J o4 n4 k4) (J o5 n5 k5)) F0 v l:=fun v l h=>fI h b8 L8.out _ _ _ _ _ _;generalize gN x b8 (U V me) (J o1 n1 k1) (J o2 n2 k2) (J o3 n3 k3) (J o4 n4 k4) (J o5 n5 k5)=x2 at *;have ff:dF W F0 b4 b5 b6 b8 #[U V me,J o1 n1 k1,J o2 n2 k2,J o3 n3 k3,J o4 n4 k4,J o5 n5 k5] c d c2 d2 (fun j=>j=9\/D j) x2:=⟨⟨(s4 b4 N4.out).trans hF.1.1,(s4 b5 N5.out).trans hF.1.2.1,(s4 b6 N6.out).trans hF.1.2.2⟩,fun h=>absurd (aC d8) h,fun h=>absurd (bI rfl) h,fun _=>⟨hx,fun j hj hne=>(s4 j hne).trans (hb.block j hj),hy⟩⟩;have st:∀ j u,j<11->D j->¬ D ((fun i=>if i=7 then 8 else 11) j)->j≠9->dV W.heap.size F0 (aP #[U V me,J o1 n1 k1,J o2 n2 k2,J o3 n3 k3,J o4 n4 k4,J o5 n5 k5]) rv iM c d c2 d2 lo j u x->dV W.heap.size F0 (aP #[U V me,J o1 n1 k1,J o2 n2 k2,J o3 n3 k3,J o4 n4 k4,J o5 n5 k5]) rv iM c d c2 d2 lo j u x2:=fun j u hj dj nl ni h=>by
    rcases (by omega:j=0\/j=1\/j=2\/j=3\/j=4\/j=5\/j=6\/j=7\/j=8\/j=9\/j=10) with rfl|rfl|rfl|rfl|rfl|rfl|rfl|rfl|rfl|rfl|rfl
    ·exact h
    ·exact h
    ·exact h
    ·exact h
    ·exact h
    ·exact h
    ·exact h
    ·exact absurd d8 nl
    ·obtain⟨s,h1,h2⟩:=h;exact⟨s,h1,so _ _ h2⟩
    ·exact h
    ·exact absurd dj n10
   have q:=hK (aO aT) x2 trivial ff fun j u hj dj nl _ ni h=>st j u hj dj nl ni h;have q2:K a x2:=q;exact Rg.fT 28 (ah 8) (ah 50) rfl rfl rfl rfl e8 e50 hs q2
  ·cases ho;obtain⟨sl,h58,o58⟩:∃ sl:Sl,a.eval (ah 58)=dY sl/\jT x F0 (a.eval (ah 58)) (lo++[(iM,4,c,d,c2,d2,(X,0,0),(X,0,0))]):=seen.at_ ⟨8,.data⟩ (by simp) rfl (aC (by decide)) _ rfl;exact aD rfl rfl (Rg.jJ a.eval _ (ah 58) rfl x) (hK _ _ ⟨sl,h58,o58⟩ (still 10 (by decide) (by decide)) fun _ _ _ _ _ _ _ h=>h)
 ·intro a x df sz kp ⟨vs,hv⟩ ⟨D,hall,hF⟩;obtain⟨sl,h1,h2⟩:=(hv 10 (by omega)).2 (by decide);have g9:a.tmps[9]?=O (dY sl):=by
   rw [<- h1];exact (hv 10 (by omega)).1 9 rfl
  obtain⟨e1,e2,e3⟩:=hF.2.2.2 (hall 9 (by omega));rw [h1] at h2;exact HQ.out a x sl df ((kp 8 (nd 8 (by decide))).trans rfl) g9 e1 h2 e2 e3
theorem FN {W W':aH} {k:Nat} {me:Int} {s1 s2 s3 s4 s5:Sl} {v:aJ} {l:List iH} {m:List En} (h1:lS W v l) (h2:eY (jD W) l m) (hb:dJ W k (jo me s1 s2 s3 s4 s5) 28) (hk:∀ j,j<W.heap.size->j≠k->W'.heap[j]?=W.heap[j]?):lS W' v l/\eY (jD W') l m :=
 ⟨iT nX h1 hk (lG hb (fun _=>⟨_,_,rfl,rfl⟩) (mD me s1 s2 s3 s4 s5)),h2.mono fun _ _ hx=>⟨hx.1,hx.2.1,hx.2.2.1,hx.2.2.2.1,iT vI hx.2.2.2.2 hk (sG hb (sH me s1 s2 s3 s4 s5))⟩⟩
theorem gu {W W':aH} {k:Nat} {me:Int} {s1 s2 s3 s4 s5:Sl} {s:Sl} {m:List Ou} (h:iW W s m) (hb:dJ W k (jo me s1 s2 s3 s4 s5) 28) (hk:∀ j,j<W.heap.size->j≠k->W'.heap[j]?=W.heap[j]?):iW W' s m:=by
 obtain⟨xs,h1,h2⟩:=h;exact⟨xs,iT EK h1 hk (lG hb (fun c=>⟨_,_,rfl,rfl⟩) (mD me s1 s2 s3 s4 s5)),h2.mono fun x a hx=>⟨hx.1,hx.2.1,hx.2.2.1,hx.2.2.2.1,iT vI hx.2.2.2.2.1 hk (sG hb (sH me s1 s2 s3 s4 s5)),hx.2.2.2.2.2⟩⟩
theorem jB (b:Br) (t x:Id) (f:Int):(kU b t x f).1=(takeB b t x f).1:=by
 unfold kU
 split
 ·rfl
 ·split <;> rfl
theorem aaZ {W:aH} {l:List iH} {m:List En} (t:Int) (h:eY (jD W) l m):eY (rD W) (l.map (Nl t)) (m.map (xS t)):=by
 induction h with
 | nil=>exact .nil
 | cons x _ ih=>exact .cons (agl x t) ih
theorem FR (b:Br) (nv av sv ev ov:Sl) (x s:Id) (f:Int) (w:aH) (h:iN w b nv av sv ev ov) (l2:b.dP.length<=900) (l3:b.ent.length<=900) (hok:∀ e∈b.ent,eD e.p) (hkn:∀ e∈b.ent,e.tree∈b.dP.map Ad.id) :
  Calls aF 100 #[mo b.me nv av sv ev ov,mW x,mW s,U V f] w fun e w'=>(∃ ev' lo:Sl,e=.returned (.tuple #[mo b.me nv av sv ev' ov,dY lo])/\iN w' (kU b x s f).1 nv av sv ev' ov/\iW w' lo (kU b x s f).2)/\Below w.heap.size w w':=by
 obtain⟨no,nn,nc⟩:=nv;obtain⟨ao,an,ac⟩:=av;obtain⟨so,sn,sc⟩:=sv;obtain⟨eo,en,ec⟩:=ev;obtain⟨oo,dU,oc⟩:=ov;obtain⟨c,d⟩:=x;obtain⟨c2,d2⟩:=s;have TK:=L (fun W hb'=>R8 b (no,nn,nc) (ao,an,ac) (so,sn,sc) (eo,en,ec) (oo,dU,oc) (c,d) (c2,d2) f W (h.on (show Below w.heap.size w W from hb')) l3 hok);have yE:=L h.near;have L2:=L l2;have L3:=L l3;have KN:=L hkn;obtain⟨h0,h1,h2,h3,h4⟩:=J7 w #[U V b.me,J no nn nc,J ao an ac,J so sn sc,J eo en ec,J oo dU oc] #[U V c,U V d] #[U V c2,U V d2] #[U V 0,J X 0 0,J X 0 0,J X 0 0,J X 0 0,J X 0 0] 28 31 31 28;obtain⟨me,hme⟩:∃ me,me=b.me:=⟨_,rfl⟩;simp only [<- hme] at h0 h1 h2 h3 h4 TK ⊢;have gP:=L (h0);have q9:=L (h1);have nD:=L (h2);have mH:=L (h3);have vK:=L (h4);clear h0 h1 h2 h3 h4 h l2 l3 hme hok hkn;go_enter Tryz.func100,Tryz.ntmps100;go_upto_region 1 with fail;generalize ((((w.alloc (aj #[U V me,J no nn nc,J ao an ac,J so sn sc,J eo en ec,J oo dU oc] 28)).alloc (aj #[U V c,U V d] 31)).alloc (aj #[U V c2,U V d2] 31)).alloc (aj #[U V 0,J X 0 0,J X 0 0,J X 0 0,J X 0 0,J X 0 0] 28))=W at *;have SW:=L (TK.out W gP.out);clear TK;obtain⟨x0,x1,x2,x3,x4,x5⟩:=q9.out.eX;obtain⟨y0,y1⟩:=nD.out.cs2;obtain⟨z0,z1⟩:=mH.out.cs2;go_wp2_with fail;refine SW.out.mono ?_;rintro e1 w1 ⟨⟨⟨ea,iI,iJ⟩,⟨la,ln,lc⟩,rfl,hbr,xs,hrow,hall⟩,hb⟩;clear SW;clear x0 x1 x2 x3 x4 x5 y0 y1 z0 z1;obtain⟨fb,Nc⟩:∃ r,(takeB b (c,d) (c2,d2) f).2.2=r:=⟨_,rfl⟩;have LB:=L Nc;rw [Nc];obtain⟨qa,qc,hq⟩:=hrow.len;obtain rfl:ln=xs.length:=by simpa using congrArg (fun v=>match v with|Value.slice _ n _=>n|_=>0) hq
 obtain⟨ln,hln⟩:∃ n,n=xs.length:=⟨_,rfl⟩;simp only [<- hln] at hrow ⊢;have LN:=L hln.symm;clear hln hq;have jG:=L (gP.out.trans (hb.mono gP.out.size));have oH:=L (q9.out.on hb);have aiQ:=L (nD.out.on hb);have Ik:=L (mH.out.on hb);have Sg:=L (vK.out.on hb);clear gP q9 nD mH vK;obtain⟨k0,k1,k2,k3,k4,k5⟩:=oH.out.eX;obtain⟨oI,oJ,oK,oL,oM,oN⟩:=oH.out.kI;have zz:=oH.out.lt;have FB:=L (dK oH.out (U V me) (J no nn nc) (J ao an ac) (J so sn sc) (J ea iI iJ) (J oo dU oc));have B2:=L (dG (b:=w.heap.size) jG.out (aG _) (U V me) (J no nn nc) (J ao an ac) (J so sn sc) (J ea iI iJ) (J oo dU oc));have F5:=L (show dJ _ _ _ _ from (dN w1 w.heap.size (U V me) (J no nn nc) (J ao an ac) (J so sn sc) (J ea iI iJ) (J oo dU oc) (w.heap.size+1) (by omega)).trans aiQ.out);have F6:=L (show dJ _ _ _ _ from (dN w1 w.heap.size (U V me) (J no nn nc) (J ao an ac) (J so sn sc) (J ea iI iJ) (J oo dU oc) (w.heap.size+1+1) (by omega)).trans Ik.out);have F8:=L (show dJ _ _ _ _ from (dN w1 w.heap.size (U V me) (J no nn nc) (J ao an ac) (J so sn sc) (J ea iI iJ) (J oo dU oc) (w.heap.size+1+1+1) (by omega)).trans Sg.out);have HB:=L (fJ (s1:=(no,nn,nc)) (s2:=(ao,an,ac)) (s3:=(so,sn,sc)) (s4:=(eo,en,ec)) (s5:=(oo,dU,oc)) hbr oH.out (fun j _ hj=>dN w1 w.heap.size (U V me) (J no nn nc) (J ao an ac) (J so sn sc) (J ea iI iJ) (J oo dU oc) j hj) (by rw [(kg b (c,d) (c2,d2) f).2.1]; exact yE.out.on B2.out));have HX:=L (FN (s1:=(no,nn,nc)) (s2:=(ao,an,ac)) (s3:=(so,sn,sc)) (s4:=(eo,en,ec)) (s5:=(oo,dU,oc)) hrow hall oH.out (fun j _ hj=>dN w1 w.heap.size (U V me) (J no nn nc) (J ao an ac) (J so sn sc) (J ea iI iJ) (J oo dU oc) j hj));clear Nc hbr hb hrow hall jG oH aiQ Ik Sg;go_upto_region 2 with fail;clear zz k0 k1 k2 k3 k4 k5 oI oJ oK oL oM oN;unfold gN at FB B2 F5 F6 F8 HB HX;generalize ((((((w1.setCell ⟨w.heap.size,0,X⟩ (U V me)).setCell ⟨w.heap.size,1,X⟩ (J no nn nc)).setCell ⟨w.heap.size,2,X⟩ (J ao an ac)).setCell ⟨w.heap.size,3,X⟩ (J so sn sc)).setCell ⟨w.heap.size,4,X⟩ (J ea iI iJ)).setCell ⟨w.heap.size,5,X⟩ (J oo dU oc))=w2 at *;have mP:=L (B2.out);have wN:=L (FB.out);have aa0:=L (F5.out);have Ka:=L (F6.out);have Cu:=L (F8.out);clear B2 FB F5 F6 F8;cases fb
 ·have x0:=wN.out.cell 0;have x1:=wN.out.cell 1;have x2:=wN.out.cell 2;have x3:=wN.out.cell 3;have x4:=wN.out.cell 4;have x5:=wN.out.cell 5;simp only [au,ay,aA] at x0 x1 x2 x3 x4 x5;obtain⟨r0,r1,r2,r3,r4,r5⟩:=Cu.out.eX;obtain⟨xM,vL,Ah,Cq,Cr,Ct⟩:=Cu.out.kI;have zz:=Cu.out.lt;have GG:=L (dK Cu.out (U V me) (J no nn nc) (J ao an ac) (J so sn sc) (J ea iI iJ) (J oo dU oc));have BL:=L (dG (b:=w.heap.size+1+1+1) mP.out (by omega) (U V me) (J no nn nc) (J ao an ac) (J so sn sc) (J ea iI iJ) (J oo dU oc));have HC:=L (fJ (s1:=(X,0,0)) (s2:=(X,0,0)) (s3:=(X,0,0)) (s4:=(X,0,0)) (s5:=(X,0,0)) HB.out Cu.out (fun j _ hj=>dN w2 (w.heap.size+1+1+1) (U V me) (J no nn nc) (J ao an ac) (J so sn sc) (J ea iI iJ) (J oo dU oc) j hj) (by rw [(kg b (c,d) (c2,d2) f).2.1]; exact yE.out.on BL.out));clear HB HX;go_wp2_with fail;obtain⟨v0,v1,v2,v3,v4,v5⟩:=GG.out.eX;refine bodyPost_ret (v:=.tuple #[aP #[U V me,J no nn nc,J ao an ac,J so sn sc,J ea iI iJ,J oo dU oc],J X 0 0]) (by simp [results,cu,go_sem,v0,v1,v2,v3,v4,v5]) rfl ?_;have hd:kU b (c,d) (c2,d2) f=((takeB b (c,d) (c2,d2) f).1,[]):=by unfold kU; rw [if_pos LB.out]
  rw [hd];exact⟨⟨(ea,iI,iJ),(X,0,0),rfl,HC.out,rE _⟩,BL.out⟩
 ·obtain⟨e0,he0,ht0⟩:=Nn LB.out;have hmem:(c,d)∈b.dP.map Ad.id:=ht0 ▸ KN.out e0 he0;obtain⟨k,hk1,hk2⟩:=FJ _ _ hmem;rw [bH] at hk2;obtain⟨a,hak⟩:∃ a,b.dP[k]?=O a:=by
   cases h:b.dP[k]? with
   | none=>rw [h] at hk2; cases hk2
   | some a=>exact⟨a,rfl⟩
  have DB:=L (show kU b (c,d) (c2,d2) f=((takeB b (c,d) (c2,d2) f).1,(takeB b (c,d) (c2,d2) f).2.1.map (xS a.par)++[⟨a.par,4,(c,d),(c2,d2),[]⟩]) from by
   unfold kU;rw [if_neg (by rw [LB.out]; simp),hk1,bG,hak])
  clear hk2 hmem he0 ht0 e0;obtain⟨ad,Ai,xV⟩:=HB.out.dP;rw [(kg b (c,d) (c2,d2) f).1] at xV;obtain⟨z,hz1,hz2⟩:=xV.at k a hak;have FD:=uO me (J no nn nc) (J ea iI iJ) (J so sn sc) (J oo dU oc) (ao,an,ac) ad (c,d);rw [Bj xV,hk1] at FD;obtain⟨q1,q2,hq⟩:=Ai.len;obtain⟨rfl,rfl,rfl⟩:ao=q1/\an=ad.length/\ac=q2:=by
   have:J ao an ac=J q1 ad.length q2:=hq;simpa using this
  obtain⟨p,ix,px⟩:=IJ Ai rfl rfl hz1;obtain⟨p0,p1,p2,p3⟩:=px w2 (ak _ _);obtain⟨z1,z2,⟨z3,z4,z5⟩,z6⟩:=z;simp only at p0 p1 p2 p3;obtain rfl:z6=a.par:=hz2.2.1;have CE:=L (fun d os=>Calls.regrown_of (d:=d) (os:=os) (FD _ (Ai.on (below_regrown w2 d os))));obtain⟨an,han⟩:∃ n,n=ad.length:=⟨_,rfl⟩;clear FD hq px p0 p1 p2;have q3:=cell_regrown p3;simp only [<- han] at ix CE wN HB;have HAN:=L han;clear han hz2 hak hk1 xV Ai hz1 p3;have a0:=cell_regrown (show w2.cell? ⟨w.heap.size,0,X⟩=O (U V me) from wN.out.cell 0);have a1:=cell_regrown (show w2.cell? ⟨w.heap.size,1,X⟩=O (J no nn nc) from wN.out.cell 1);have a2:=cell_regrown (show w2.cell? ⟨w.heap.size,2,X⟩=O (J ao an ac) from wN.out.cell 2);have a3:=cell_regrown (show w2.cell? ⟨w.heap.size,3,X⟩=O (J so sn sc) from wN.out.cell 3);have a4:=cell_regrown (show w2.cell? ⟨w.heap.size,4,X⟩=O (J ea iI iJ) from wN.out.cell 4);have a5:=cell_regrown (show w2.cell? ⟨w.heap.size,5,X⟩=O (J oo dU oc) from wN.out.cell 5);have b0:=cell_regrown (show w2.cell? ⟨w.heap.size+1,0,X⟩=O (U V c) from aa0.out.cell 0);have b1:=cell_regrown (show w2.cell? ⟨w.heap.size+1,1,X⟩=O (U V d) from aa0.out.cell 1);go_upto_region 4 with fail;refine wp_region_quiet_below (by kernel_rfl) (by kernel_rfl) ?_
  repeat (go_big_quiet_step (first | (with_reducible exact CE.out _ _)))
  refine wpQuiet_nil ?_;intro _ hw';obtain⟨⟨dq,osq⟩,hw''⟩:=hw';subst hw'';have Z6:=below_regrown w2 dq osq;have HB2:=L (HB.out.on Z6);have HX2:=L (show lS _ _ _/\eY (jD _) _ _ from ⟨HX.out.1.on Z6,HX.out.2.mono fun _ _ h=>h.on Z6⟩);have sU:=L (mP.out.trans (Z6.mono mP.out.size));have abY:=L (wN.out.on Z6);have abZ:=L (aa0.out.on Z6);have ab0:=L (Ka.out.on Z6);have qy:=L (Cu.out.on Z6);clear mP wN aa0 Ka Cu;clear Z6 HB HX CE ix q3 a0 a1 a2 a3 a4 a5 b0 b1;generalize grow (redrawn w2 dq) osq=w3 at *;generalize a.par=iM at *;go_wp2_with fail
  go_loopw [13,38] (fun v i wr=>∃ k:Nat,k<=ln/\i=U V k/\Below w3.heap.size w3 wr/\jT wr w3.heap.size v ((xs.take k).map (Nl iM))) (fun _ i _=>ln-(intOf i).toNat)
  case atStart=>exact⟨0,bV _,rfl,ak _ _,jl _ _⟩
  case round =>
   obtain⟨k,hk,rfl,hbe,hown⟩:=hrel;have BE:=L hbe;have OE:=L hown;clear hbe hown;have L9:=L (show ln<=900 from by have h1:=HX2.out.2.len; rw [LN.out] at h1; rw [h1]; exact Z (vE b (c,d) (c2,d2) f).2 L3.out);have l9:=L9.out;by_cases hlt:k<ln
   ·have hlt':(k:Int)<(ln:Int):=by omega
    have hw:IntKind.i64.wrap ((k:Int)+1)=(k:Int)+1:=bf _ (by omega);obtain⟨y,hy⟩:∃ y,xs[k]?=O y:=⟨_,aB (by rw [LN.out]; exact hlt)⟩;obtain⟨p,ix,px⟩:=LK HX2.out.1 rfl LN.out hy;obtain⟨p0,p1,p2,p3,p4,p5,p6⟩:=px wr BE.out;have TKY:=L (show (xs.take (k+1)).map (Nl iM)=(xs.take k).map (Nl iM)++[Nl iM y] from by rw [bZ,hy]; simp);obtain⟨y1,y2,y3,y4,⟨yo,yn,yc⟩,y6,y7⟩:=y;simp only at p0 p1 p2 p3 p4 p5 p6;clear px hy;go_upto_region 9 with fail;clear p0 p1 p2 p3 p4 p5 p6 ix;have NN:=fF wr (aj #[U V y1,U V y2,U V y3,U V y4,J yo yn yc,U V y6,aO y7] 66);have XE:=dO wr #[U V y1,U V y2,U V y3,U V y4,J yo yn yc,U V y6,aO y7] 66;have Wj:=L (BE.out.trans (NN.mono BE.out.size));have Q9:=L (Bk.dI OE.out NN);clear BE OE NN;generalize wr.alloc (aj #[U V y1,U V y2,U V y3,U V y4,J yo yn yc,U V y6,aO y7] 66)=wa at *;obtain⟨c0_,c1_,c2_,c3_,c4_,c5_,c6_⟩:=XE.nJ;have SB:=Au (y1,y2,y3,y4,(yo,yn,yc),y6,y7) wa;go_wp2_with fail;refine SB.mono ?_;rintro e3 wb ⟨rfl,hb⟩;clear SB XE c0_ c1_ c2_ c3_ c4_ c5_ c6_;have BE3:=L (Wj.out.trans (hb.mono Wj.out.size));have OE3:=L (Bk.dI Q9.out hb);clear hb Wj Q9;have hl:=jm EK wb [((iM,3,y1,y2,y3,y4,(yo,yn,yc),(X,0,0)):mE)] 1 rfl (by simp) #[U V iM,U V 3,U V y1,U V y2,U V y3,U V y4,J yo yn yc,J X 0 0] (by rfl);have NB:=fF wb (aj #[U V iM,U V 3,U V y1,U V y2,U V y3,U V y4,J yo yn yc,J X 0 0] 43);obtain⟨v',x5,q2,o2,g2⟩:=gY EK w3.heap.size (Bk.dI OE3.out NB) (aL hl) (by rw [bR,aN]; omega) (by simp) (Z BE3.out.size NB.size) 35;have q2:(aQ #[35,35] 35 #[u13,J (O ⟨wb.heap.size,0,X⟩) 1 1]).run aF (wb.alloc (aj #[U V iM,U V 3,U V y1,U V y2,U V y3,U V y4,J yo yn yc,J X 0 0] 43))=.ok v' x5:=q2;have BX:=L ((BE3.out.trans (NB.mono BE3.out.size)).grown g2 (Z BE3.out.size NB.size) (fun j hj=>((Bk.dI OE3.out NB).lt j hj).1));have O2:=L o2;clear hl NB o2 g2;go_wp2_with (first | (at_builtin; refine wpList_append_run rfl _ _ 35 rfl rfl rfl q2 ?_) | fail)
    go_roundw
    case rel=>exact⟨k+1,hlt,by go_num,BX.out,by rw [TKY.out]; exact O2.out⟩
    case measure=>simp [intOf]; omega
   ·obtain rfl:k=ln:=by omega
    have ht:xs.take k=xs:=bN (by rw [LN.out]; exact aG _);rw [ht] at OE;clear ht;go_upto_region 11 with fail;refine Wh _ wr w3.heap.size w.heap.size (w.heap.size+1) (w.heap.size+1+1) (w.heap.size+1+1+1) me iM c d c2 d2 no ao so ea oo nn nc an ac sn sc iI iJ dU oc u13 (xs.map (Nl iM)) _ _ _ _ _ _ _ _ _ _ _ _ _ _ _ _ _ _ _ _ _ _ _ _ _ _ _ _ _ _ _ _ _ _ _ _ _ _ _ _ _ _ _ _ _ _ _ _ _ _ _ _ _ _ _ _ _ _ _ (abY.out.on BE.out) (abZ.out.on BE.out) (ab0.out.on BE.out) (qy.out.on BE.out) abY.out.lt abZ.out.lt ab0.out.lt qy.out.lt (by omega) (by omega) (by omega) BE.out.size OE.out (by rw [bR,LN.out]; omega) ?_;intro a9 x9 sl JJ h69 h79 hbx ho hblk hbl;have BL:=L (show Below w.heap.size w x9 from (sU.out.trans (BE.out.mono sU.out.size)).trans (hbl w.heap.size (by omega)));have HK:=L (show ∀ j,j<w3.heap.size->j≠w.heap.size+1+1+1->x9.heap[j]?=w3.heap[j]? from fun j hj hne=>(hblk j hj hne).trans (BE.out.block j hj));have HC:=L (fJ (s1:=(X,0,0)) (s2:=(X,0,0)) (s3:=(X,0,0)) (s4:=(X,0,0)) (s5:=(X,0,0)) HB2.out qy.out HK.out (by rw [(kg b (c,d) (c2,d2) f).2.1]; exact yE.out.on BL.out));have HX3:=L (FN (s1:=(X,0,0)) (s2:=(X,0,0)) (s3:=(X,0,0)) (s4:=(X,0,0)) (s5:=(X,0,0)) HX2.out.1 HX2.out.2 qy.out HK.out);have HU:=L (aL ho);obtain⟨v0,v1,v2,v3,v4,v5⟩:=hbx.eX;clear hbx ho hblk hbl HB2 HX2 BE OE;simp only [Exit.then]
    apply_assumption
    go_wp2_with fail;refine bodyPost_ret (v:=.tuple #[aP #[U V me,J no nn nc,J ao an ac,J so sn sc,J ea iI iJ,J oo dU oc],dY sl]) (by simp [results,cu,go_sem,h69,h79,v0,v1,v2,v3,v4,v5]) JJ ?_;have h9:=HAN.out;subst h9;rw [DB.out];exact⟨⟨(ea,iI,iJ),sl,rfl,HC.out,_,HU.out,(aaZ iM HX3.out.2).append (.cons ⟨rfl,rfl,rfl,rfl,jC _,rfl⟩ .nil)⟩,BL.out⟩
theorem xW {α:Type} {E:Ek α} (K:E.Ok) {w:aH} (B:Nat) {v x:aJ} {l m:List α} (hown:Own E w B v l) (hx:Row E w x m) (hn:l.length<=1000000) (hm:m.length<=1000000) (hB:B<=w.heap.size) (ty:dw) :
  ∃ v' w',(aQ #[E.ts,E.ts] ty #[v,x]).run aF w=.ok v' w'/\Own E w' B v' (l++m)/\w.grownBy w' v.ownBlock:=by
 obtain⟨i,i1,i2,i3,i4⟩:=K.info;rcases hx with⟨rfl,rfl⟩|⟨ad,c,rfl,h2,h3,h4⟩
 ·exact⟨v,w,run_append_owned_none (P:=aF) (w:=w) B E.ts ty E.t i E.n K.hu i1 v _ _ hown,by simpa using hown,sw _ _⟩
 ·have hf:=K.few;obtain⟨v',w',r1,r2,r3,_⟩:=run_append_own (P:=aF) w B E.ts ty E.t i E.z E.n E.bytes K.hu i1 i2 i3 i4 K.zs K.pos v _ _ hown ad m.length c (flat E m) (eG K m) h4 (qP K m) (by unfold maxLen; omega)
   (Z (cB (show l.length+m.length<=2000000 by omega) hf) (by decide)) hB
  exact⟨v',w',r1,by rw [Own,aK,iA]; exact r2,r3⟩
def Il (B:Nat) (_ _:Nat) (me:Int) (o1 o2 o3 o4 o5:Option bL) (n1 k1 n2 k2 n3 k3 n4 k4 n5 k5:Nat) (so iM:Option bL) (sn sc tn tc:Nat) (lo ls:List mE) (_ _ _ _ _ _:aJ) (i:Nat) (v:aJ) (x:aH):Prop :=
 match i with
 | 0=>v=aP #[U V me,J o1 n1 k1,J o2 n2 k2,J o3 n3 k3,J o4 n4 k4,J o5 n5 k5]
 | 1=>jT x B v []
 | 2=>v=J so sn sc
 | 3=>jT x B v lo
 | 4=>v=J iM tn tc
 | 5=>jT x B v (lo++ls)
 | _=>True
noncomputable def Wm:Code:=((Tryz.f38.body.bind (eO 16)).getD .skip)
theorem Si (B:Nat) (b2 b12:Nat) (me:Int) (o1 o2 o3 o4 o5:Option bL) (n1 k1 n2 k2 n3 k3 n4 k4 n5 k5:Nat) (so iM:Option bL) (sn sc tn tc:Nat) (lo ls:List mE) (z0 z1 z2 z3 z4 z5:aJ) (i:Nat) (v:aJ) (x x':aH) (h:Il B b2 b12 me o1 o2 o3 o4 o5 n1 k1 n2 k2 n3 k3 n4 k4 n5 k5 so iM sn sc tn tc lo ls z0 z1 z2 z3 z4 z5 i v x) (hb:Below x.heap.size x x'):Il B b2 b12 me o1 o2 o3 o4 o5 n1 k1 n2 k2 n3 k3 n4 k4 n5 k5 so iM sn sc tn tc lo ls z0 z1 z2 z3 z4 z5 i v x':=by
 by_cases hi:i<6
 ·rcases (by omega:i=0\/i=1\/i=2\/i=3\/i=4\/i=5) with rfl|rfl|rfl|rfl|rfl|rfl
  ·exact h
  ·exact dI h hb
  ·exact h
  ·exact dI h hb
  ·exact h
  ·exact dI h hb
 ·unfold Il
  split <;> first | omega | trivial
theorem aiS (Q:Exit->Act->aH->Prop) (W:aH) (b2 b12:Nat) (me:Int) (o1 o2 o3 o4 o5:Option bL) (n1 k1 n2 k2 n3 k3 n4 k4 n5 k5:Nat) (so iM:Option bL) (sn sc tn tc:Nat) (lo ls:List mE) (z0 z1 z2 z3 z4 z5:aJ) (u0 u1 u3 u4 u5 u6 u7 u8 u10 u11 u14 u15 u16 u17 u18 u19 u20 u21 u22 u23 u24 u25 u26 u27 u28 u29 u30 u31 u32 u33 u34 u35 u36 u37 u38 u39 u40 u41 u42 u43 u44 u45 u46 u47 u48 u49 u50 u51 u52 u53 u54 u55 u56 u57 u58 u59 u60 u61 u62:aJ)
  (h2:dJ W b2 #[z0,z1,z2,z3,z4,z5] 28) (h12:dJ W b12 #[U V me,J o1 n1 k1,J o2 n2 k2,J o3 n3 k3,J o4 n4 k4,J o5 n5 k5] 28) (wU:Ju W (J so sn sc) lo) (rls:Ju W (J iM tn tc) ls) (l9:lo.length<=1000000) (s9:ls.length<=1000000)
  (hQ:∀ (x:aH) (w9:aJ) (v54 v55 v56 v57 v58 v59:aJ),dJ x b2 #[U V me,J o1 n1 k1,J o2 n2 k2,J o3 n3 k3,J o4 n4 k4,J o5 n5 k5] 28->jT x W.heap.size w9 (lo++ls)->(∀ j,j<W.heap.size->j≠b2->x.heap[j]?=W.heap[j]?)->(∀ B,B<=b2->Below B W x)->Q .normal ⟨(u0::u1::Y (O ⟨b2,0,X⟩)::u3::u4::u5::u6::u7::u8::w9::u10::u11::Y (O ⟨b12,0,X⟩)::J iM tn tc::u14::u15::u16::u17::u18::u19::u20::u21::u22::u23::u24::u25::u26::u27::u28::u29::u30::u31::u32::u33::u34::u35::u36::u37::u38::u39::u40::u41::u42::u43::u44::u45::u46::u47::u48::u49::u50::u51::u52::u53::v54::v55::v56::v57::v58::v59::u60::u61::u62::[]).toArray,[]⟩ x) :
  Code.wp aF Wm Q ⟨(u0::u1::Y (O ⟨b2,0,X⟩)::u3::u4::u5::u6::u7::u8::J so sn sc::u10::u11::Y (O ⟨b12,0,X⟩)::J iM tn tc::u14::u15::u16::u17::u18::u19::u20::u21::u22::u23::u24::u25::u26::u27::u28::u29::u30::u31::u32::u33::u34::u35::u36::u37::u38::u39::u40::u41::u42::u43::u44::u45::u46::u47::u48::u49::u50::u51::u52::u53::u54::u55::u56::u57::u58::u59::u60::u61::u62::[]).toArray,[]⟩ W:=by
 have HQ:=L hQ;have H2:=L h2;have H12:=L h12;have RLO:=L wU;have RLS:=L rls;have LO:=L l9;have LS:=L s9;clear hQ h2 h12 wU rls l9 s9;have iO:=Si W.heap.size b2 b12 me o1 o2 o3 o4 o5 n1 k1 n2 k2 n3 k3 n4 k4 n5 k5 so iM sn sc tn tc lo ls z0 z1 z2 z3 z4 z5;unfold Wm
 conv=>arg 2; whnf
 have nd:∀ j,(∀ i,i<6->[54,55,56,57,58,59].getD i 0≠j)->∀ i,i<6->(fun i=>[54,55,56,57,58,59].getD i 0) i≠j:=fun j h=>h;refine Rg.fQ 8 6 (fun i=>[54,55,56,57,58,59].getD i 0) (fun i=>if i=1 then 3 else if i=3 then 5 else 6) (Il W.heap.size b2 b12 me o1 o2 o3 o4 o5 n1 k1 n2 k2 n3 k3 n4 k4 n5 k5 so iM sn sc tn tc lo ls z0 z1 z2 z3 z4 z5) (by kernel_rfl) (by kernel_rfl) rfl (by decide) (fun i j hi hj h=>(by decide:∀ i,i<6->∀ j,j<6->[54,55,56,57,58,59].getD i 0=[54,55,56,57,58,59].getD j 0->i=j) i hi j hj h) (fun i hi=>(by decide:∀ i,i<6->[54,55,56,57,58,59].getD i 0<63) i hi) ?_ (fun _=>Rg.jq 14 (by kernel_rfl)) ?_ ?_
 ·intro i o hi ho a x D hnd hc hD hb seen K hK;clear HQ;rcases (by omega:i=0\/i=1\/i=2\/i=3\/i=4\/i=5) with rfl|rfl|rfl|rfl|rfl|rfl
  ·cases ho;have e12:a.eval (ah 12)=Y (O ⟨b12,0,X⟩):=seen.kp 12 _ (nd 12 (by decide)) rfl;obtain⟨y0,y1,y2,y3,y4,y5⟩:=(H12.out.on hb).eX;exact aD rfl rfl (bQ a.eval _ 28 (ah 12) rfl (by rw [e12]; simp [go_sem,y0,y1,y2,y3,y4,y5])) (hK _ _ rfl (ak _ _) fun _ _ _ _ _ _ _ h=>h)
  ·cases ho;have nb:=fF x (aj #[] 43);have hl:=qQ (B':=W.heap.size) hb.size (I4 (E:=EU) x);exact aD rfl rfl (dx a.eval _ 35 0 #[] rfl rfl (by simp [go_sem])) (hK (J (O ⟨x.heap.size,0,X⟩) 0 0) (x.alloc (aj #[] 43)) hl (nb.mono hb.size) fun j u _ _ _ _ _ h=>iO j u _ _ h nb)
  ·cases ho;have e9:a.eval (ah 9)=J so sn sc:=seen.kp 9 _ (nd 9 (by decide)) rfl;exact aD rfl rfl (cO a.eval _ (ah 9) rfl x) (hK _ _ e9 (ak _ _) fun _ _ _ _ _ _ _ h=>h)
  ·cases ho;have E55:=seen.at_ ⟨1,.data⟩ (by simp) rfl (bI rfl);have e56:a.eval (ah 56)=J so sn sc:=seen.at_ ⟨2,.data⟩ (by simp) rfl (aC (by decide));have o55:jT x W.heap.size (a.eval (ah 55)) []:=E55;obtain⟨v',x',r,o',gr⟩:=xW EK W.heap.size o55 (RLO.out.on hb) (by simp) LO.out hb.size 35;have o'':jT x' W.heap.size v' lo:=by simpa using o'
   exact aD rfl rfl (dn a.eval _ (ah 55) (ah 56) 35 rfl rfl e56 r) (hK v' x' o'' ((ak _ x).grown gr hb.size fun j hj=>(o55.lt j hj).1) fun j u hj dj nl nx ni h=>by
    rcases (by omega:j=0\/j=1\/j=2\/j=3\/j=4\/j=5) with rfl|rfl|rfl|rfl|rfl|rfl
    ·exact h
    ·exact absurd rfl nx
    ·exact h
    ·exact absurd rfl ni
    ·exact h
    ·exact absurd (hc 5 _ dj rfl ⟨3,.data⟩ (by simp) rfl) hnd)
  ·cases ho;have e13:a.eval (ah 13)=J iM tn tc:=seen.kp 13 _ (nd 13 (by decide)) rfl;exact aD rfl rfl (cO a.eval _ (ah 13) rfl x) (hK _ _ e13 (ak _ _) fun _ _ _ _ _ _ _ h=>h)
  ·cases ho;have E57:=seen.at_ ⟨3,.data⟩ (by simp) rfl (bI rfl);have e58:a.eval (ah 58)=J iM tn tc:=seen.at_ ⟨4,.data⟩ (by simp) rfl (aC (by decide));have o57:jT x W.heap.size (a.eval (ah 57)) lo:=E57;obtain⟨v',x',r,o',gr⟩:=xW EK W.heap.size o57 (RLS.out.on hb) LO.out LS.out hb.size 35;have d3:D 3:=hD ⟨3,.data⟩ (by simp) rfl;exact aD rfl rfl (dn a.eval _ (ah 57) (ah 58) 35 rfl rfl e58 r) (hK v' x' o' ((ak _ x).grown gr hb.size fun j hj=>(o57.lt j hj).1) fun j u hj dj nl nx ni h=>by
    rcases (by omega:j=0\/j=1\/j=2\/j=3\/j=4\/j=5) with rfl|rfl|rfl|rfl|rfl|rfl
    ·exact h
    ·exact absurd d3 nl
    ·exact h
    ·exact absurd rfl nx
    ·exact h
    ·exact absurd rfl ni)
 ·intro kk o h1 h2 ho;rcases (by omega:kk=7) with rfl
  ·cases ho;exact⟨⟨6,.chain⟩,by simp,rfl,rfl⟩
 ·intro a w' df sz kp ⟨vs,hv⟩ hb;have sz':a.tmps.size=63:=sz;have g2:a.tmps[2]?=O (Y (O ⟨b2,0,X⟩)):=(kp 2 (nd 2 (by decide))).trans rfl;have g54:a.tmps[54]?=O (aP #[U V me,J o1 n1 k1,J o2 n2 k2,J o3 n3 k3,J o4 n4 k4,J o5 n5 k5]):=by
   have h:vs 0=aP #[U V me,J o1 n1 k1,J o2 n2 k2,J o3 n3 k3,J o4 n4 k4,J o5 n5 k5]:=(hv 0 (by omega)).2 (by decide);rw [<- h];exact (hv 0 (by omega)).1
  have g59:a.tmps[59]?=O (vs 5):=(hv 5 (by omega)).1;have G59:=(hv 5 (by omega)).2 (by decide);have o59:jT w' W.heap.size (vs 5) (lo++ls):=G59;generalize vs 5=v' at *;have H2x:=H2.out.on hb;have lt2:=H2.out.lt;show Rg.fH _ _ _ 2 6 a w';simp only [Rg.fH];refine Rg.fT 28 (ah 2) (ah 54) rfl rfl rfl rfl (dB g2) (dB g54) (w':=gN w' b2 (U V me) (J o1 n1 k1) (J o2 n2 k2) (J o3 n3 k3) (J o4 n4 k4) (J o5 n5 k5)) (oC H2x me _ _ _ _ _ _ _ _ _ _ _ _ _ _ _) ?_;refine aD rfl rfl (Rg.jJ a.eval _ (ah 59) rfl _) ?_;show Q .normal (a.put (O 9) (a.eval (ah 59))) _;rw [dB g59];have hx:=dK H2x (U V me) (J o1 n1 k1) (J o2 n2 k2) (J o3 n3 k3) (J o4 n4 k4) (J o5 n5 k5);have ho:=fI o59 b2 lt2 (U V me) (J o1 n1 k1) (J o2 n2 k2) (J o3 n3 k3) (J o4 n4 k4) (J o5 n5 k5);have hk:∀ j,j<W.heap.size->j≠b2->(gN w' b2 (U V me) (J o1 n1 k1) (J o2 n2 k2) (J o3 n3 k3) (J o4 n4 k4) (J o5 n5 k5)).heap[j]?=W.heap[j]?:=fun j hj hne=>(dN w' b2 (U V me) (J o1 n1 k1) (J o2 n2 k2) (J o3 n3 k3) (J o4 n4 k4) (J o5 n5 k5) j hne).trans (hb.block j hj);have hbl:∀ B,B<=b2->Below B W (gN w' b2 (U V me) (J o1 n1 k1) (J o2 n2 k2) (J o3 n3 k3) (J o4 n4 k4) (J o5 n5 k5)):=fun B hB=>dG (hb.mono (aU (bD hB lt2))) hB _ _ _ _ _ _;obtain⟨sa,iR,hsv⟩:=(aL ho).len;generalize gN w' b2 (U V me) (J o1 n1 k1) (J o2 n2 k2) (J o3 n3 k3) (J o4 n4 k4) (J o5 n5 k5)=x2 at *;have ka:∀ j,j≠9->(a.put (O 9) v').tmps[j]?=a.tmps[j]?:=fun j h1=>by rw [Rg.get_put _ _ _ _ (by omega)]
  have kt:(a.put (O 9) v').tmps[9]?=O (v'):=by simp [Act.put,sz']
  have qI:∀ j,(j<54\/60<=j)->(a.put (O 9) v').tmps[j]?=(u0::u1::Y (O ⟨b2,0,X⟩)::u3::u4::u5::u6::u7::u8::v'::u10::u11::Y (O ⟨b12,0,X⟩)::J iM tn tc::u14::u15::u16::u17::u18::u19::u20::u21::u22::u23::u24::u25::u26::u27::u28::u29::u30::u31::u32::u33::u34::u35::u36::u37::u38::u39::u40::u41::u42::u43::u44::u45::u46::u47::u48::u49::u50::u51::u52::u53::u54::u55::u56::u57::u58::u59::u60::u61::u62::[])[j]?:=fun j hj=>by
   by_cases hj2:j=9
   ·subst hj2;exact kt
   ·have hs:(u0::u1::Y (O ⟨b2,0,X⟩)::u3::u4::u5::u6::u7::u8::v'::u10::u11::Y (O ⟨b12,0,X⟩)::J iM tn tc::u14::u15::u16::u17::u18::u19::u20::u21::u22::u23::u24::u25::u26::u27::u28::u29::u30::u31::u32::u33::u34::u35::u36::u37::u38::u39::u40::u41::u42::u43::u44::u45::u46::u47::u48::u49::u50::u51::u52::u53::u54::u55::u56::u57::u58::u59::u60::u61::u62::[]:List aJ)=(u0::u1::Y (O ⟨b2,0,X⟩)::u3::u4::u5::u6::u7::u8::J so sn sc::u10::u11::Y (O ⟨b12,0,X⟩)::J iM tn tc::u14::u15::u16::u17::u18::u19::u20::u21::u22::u23::u24::u25::u26::u27::u28::u29::u30::u31::u32::u33::u34::u35::u36::u37::u38::u39::u40::u41::u42::u43::u44::u45::u46::u47::u48::u49::u50::u51::u52::u53::u54::u55::u56::u57::u58::u59::u60::u61::u62::[]).set 9 (v'):=rfl;rw [hs,List.getElem?_set_ne (Ne.symm hj2)];exact (ka j hj2).trans ((kp j (nd j fun i hi h=>by have:=(by decide:∀ i,i<6->54<=[54,55,56,57,58,59].getD i 0/\[54,55,56,57,58,59].getD i 0<60) i hi; omega)).trans au)
  obtain⟨mid,hmid,hfr⟩:=Rg.gJ (a:=a.put (O 9) v') 54 6 (by simp [Act.put,df]) (by simp [Act.put,sz']) (by simp) qI;rw [hfr]
  match mid,hmid with
  | [v54,v55,v56,v57,v58,v59],_ =>
   exact HQ.out x2 _ _ _ _ _ _ _ hx ho hk hbl
theorem zf {t:Id} {m:List En} (R:En->Prop) (hR:∀ e,e.tree=t->R e->R (upE e)) (h:∀ e∈m,R e):∀ k,(∀ e∈(jk t m k).1,R e)/\∀ e∈(jk t m k).2,R e
 | 0=>⟨h,fun e he=>by simp [jk] at he⟩
 | k+1=>by
  have ih:=zf (t:=t) R hR h k;rw [nC];unfold iV
  split
  ·exact ih
  ·rename_i e he
   split
   ·rename_i hcond
    have hu:=hR e hcond.1 (ih.1 e (aM he));refine⟨fun x hx=>?_,fun x hx=>?_⟩
    ·rcases bF hx with h1|h1
     ·exact ih.1 x h1
     ·rw [h1];exact hu
    ·rcases aW.1 hx with h1|h1
     ·exact ih.2 x h1
     ·rw [bX.1 h1];exact hu
   ·exact ih
theorem sK {α:Type} {l:List α} {k:Nat} {x:α} (h:x∈cutAt l k):x∈l:=by
 rcases aW.1 h with h|h
 ·exact bS h
 ·exact bU h
theorem FT {b:Br} (t x:Id) (f:Int) (R:En->Prop) (hR:∀ e,e.tree=t->R e->R (upE e)) (h:∀ e∈b.ent,R e):(∀ e∈(takeB b t x f).1.ent,R e)/\∀ e∈(takeB b t x f).2.1,R e:=by
 unfold takeB
 split
 ·exact⟨h,fun e he=>by simp at he⟩
 ·split
  ·exact⟨h,fun e he=>by simp at he⟩
  ·split
   ·exact⟨h,fun e he=>by simp at he⟩
   ·split
    ·exact⟨fun e he=>h e (sK he),fun e he=>by simp at he⟩
    ·exact zf R hR (fun e he=>h e (sK he)) _
theorem FU (b:Br) (t x:Id) (f:Int):(kU b t x f).2.length<=b.ent.length+1:=by
 unfold kU;have h:=(vE b t x f).2
 split
 ·simp
 ·split
  ·simp
  ·rw [aK,bR];simp;omega
def FV (x:Id) (s:Br×List Ou) (t:Id):Br×List Ou:=((kU s.1 t x (-1)).1,s.2++(kU s.1 t x (-1)).2)
def wO (b:Br) (x:Id):List Ow:=b.own.filter fun o=>decide (o.id≠x)
def ko (b:Br) (x:Id) (k:Nat):Br×List Ou:=((b.dP.map Ad.id).take k).foldl (FV x) ({ b with own:=wO b x },[])
def jd (b:Br) (x:Id):Br×List Ou:=if (wO b x).length=b.own.length then (b,[]) else ko b x b.dP.length
theorem l7 (b:Br) (x:Id) {k:Nat} {a:Ad} (h:b.dP[k]?=O a):ko b x (k+1)=FV x (ko b x k) a.id:=by
 unfold ko;rw [bZ,bH,h,List.foldl_append]
 rfl
structure UnI (b0 b:Br) (o:List Ow):Prop where
 me:b.me=b0.me
 near:b.near=b0.near
 dP:b.dP=b0.dP
 seen:b.seen=b0.seen
 own:b.own=o
 len:b.ent.length<=b0.ent.length
theorem UnI.drop {b0 b:Br} {o:List Ow} (h:UnI b0 b o) (t x:Id) (f:Int):UnI b0 (kU b t x f).1 o:=by
 rw [jB];obtain⟨h1,h2,h3,h4,h5⟩:=kg b t x f;exact⟨h3.trans h.me,h2.trans h.near,h1.trans h.dP,h4.trans h.seen,h5.trans h.own,Z (vE b t x f).1 h.len⟩
theorem rF (b:Br) (x:Id):∀ k,k<=b.dP.length->UnI b (ko b x k).1 (wO b x)/\(ko b x k).2.length<=k * (b.ent.length+1)
 | 0,_=>⟨⟨rfl,rfl,rfl,rfl,rfl,aG _⟩,by simp [ko]⟩
 | k+1,hk=>by
  obtain⟨a,ha⟩:∃ a,b.dP[k]?=O a:=⟨_,aB hk⟩;obtain⟨h1,h2⟩:=rF b x k (by omega);rw [l7 b x ha];refine⟨h1.drop _ _ _,?_⟩;show ((ko b x k).2++(kU (ko b x k).1 a.id x (-1)).2).length<=_;have h3:=FU (ko b x k).1 a.id x (-1);have h4:=h1.len;rw [aK,Nat.add_mul];omega
theorem sM (b:Br) (x:Id) (R:En->Prop) (hR:∀ e,R e->R (upE e)) (h:∀ e∈b.ent,R e):∀ k,k<=b.dP.length->∀ e∈(ko b x k).1.ent,R e
 | 0,_=>h
 | k+1,hk=>by
  obtain⟨a,ha⟩:∃ a,b.dP[k]?=O a:=⟨_,aB hk⟩;rw [l7 b x ha];show ∀ e∈(kU _ _ _ _).1.ent,R e;rw [jB];exact (FT _ _ _ R (fun e _=>hR e) (sM b x R hR h k (by omega))).1
theorem Cv {W W':aH} {k:Nat} {me:Int} {s1 s2 s3 s4 s5:Sl} {l:List mE} {m:List Ou} (h:eY (rD W) l m) (hb:dJ W k (jo me s1 s2 s3 s4 s5) 28) (hk:∀ j,j<W.heap.size->j≠k->W'.heap[j]?=W.heap[j]?):eY (rD W') l m :=
 h.mono fun _ _ hx=>⟨hx.1,hx.2.1,hx.2.2.1,hx.2.2.2.1,iT vI hx.2.2.2.2.1 hk (sG hb (sH me s1 s2 s3 s4 s5)),hx.2.2.2.2.2⟩
def keepW (x:Id) (o:oq):Bool:=decide ((o.1,o.2.1)≠x)
theorem Kc (b:Br) (nv av sv ev ov:Sl) (x:Id) (w:aH) (h:iN w b nv av sv ev ov) (l2:b.dP.length<=900) (l3:b.ent.length<=900) (l4:b.own.length<=900) (hok:∀ e∈b.ent,eD e.p) (hkn:∀ e∈b.ent,e.tree∈b.dP.map Ad.id) :
  Calls aF 38 #[mo b.me nv av sv ev ov,mW x] w fun e w'=>(∃ ev' Vb lo:Sl,e=.returned (.tuple #[mo b.me nv av sv ev' Vb,dY lo])/\iN w' (jd b x).1 nv av sv ev' Vb/\iW w' lo (jd b x).2)/\Below w.heap.size w w':=by
 obtain⟨no,nn,nc⟩:=nv;obtain⟨ao,an,ac⟩:=av;obtain⟨so,sn,sc⟩:=sv;obtain⟨eo,en,ec⟩:=ev;obtain⟨oo,dU,oc⟩:=ov;obtain⟨c,d⟩:=x;obtain⟨ws,hw1,hw2⟩:=h.own;obtain⟨q1,q2,hq⟩:=hw1.len;obtain⟨rfl,rfl,rfl⟩:oo=q1/\dU=ws.length/\oc=q2:=by
  have:J oo dU oc=J q1 ws.length q2:=hq;simpa using this
 have HH:=L h;have L2:=L l2;have L3:=L l3;have WL:=L (show ws.length<=900 from by rw [hw2.len]; exact l4);have HW2:=L hw2;have OK:=L hok;have KN:=L hkn;obtain⟨dU,hon⟩:∃ n,n=ws.length:=⟨_,rfl⟩;simp only [<- hon] at HH hw1 ⊢;have N5:=L hon;obtain⟨h0,h1,h2,h3⟩:=gV w #[U V b.me,J no nn nc,J ao an ac,J so sn sc,J eo en ec,J oo dU oc] #[U V c,U V d] #[U V 0,J X 0 0,J X 0 0,J X 0 0,J X 0 0,J X 0 0] 28 31 28;obtain⟨me,hme⟩:∃ me,me=b.me:=⟨_,rfl⟩;simp only [<- hme] at h0 h1 h2 h3 ⊢;have gP:=L (h0);have Np:=L (h1);have Nq:=L (h2);have Nr:=L (h3);have Ns:=L (hw1.on h0);have ME:=L hme;clear h0 h1 h2 h3 h l2 l3 l4 hme hok hkn hw1 hw2 hq hon;show Calls aF 38 #[aP #[U V me,J no nn nc,J ao an ac,J so sn sc,J eo en ec,J oo dU oc],aP #[U V c,U V d]] w _;go_enter Tryz.func38,Tryz.ntmps38;go_upto_region 1 with fail;generalize (((w.alloc (aj #[U V me,J no nn nc,J ao an ac,J so sn sc,J eo en ec,J oo dU oc] 28)).alloc (aj #[U V c,U V d] 31)).alloc (aj #[U V 0,J X 0 0,J X 0 0,J X 0 0,J X 0 0,J X 0 0] 28))=W at *;have W4:=L (show w.heap.size+3<=W.heap.size from by have:=Nr.out.lt; omega);obtain⟨x0,x1,x2,x3,x4,x5⟩:=Np.out.eX;go_wp2_with fail;clear x0 x1 x2 x3 x4 x5
 go_loopw [6,17] (fun v i wr=>∃ q:Nat,q<=dU/\i=U V q/\Below W.heap.size W wr/\qH wr W.heap.size v ((ws.take q).filter (keepW (c,d)))) (fun _ i _=>dU-(intOf i).toNat)
 case atStart=>exact⟨0,bV _,rfl,ak _ _,jl _ _⟩
 case round =>
  obtain⟨q,hq,rfl,hbe,hown⟩:=hrel;have BE:=L hbe;have OE:=L hown;clear hbe hown;have l9:dU<=900:=by rw [N5.out]; exact WL.out
  by_cases hlt:q<dU
  ·have hlt':(q:Int)<(dU:Int):=by omega
   have hw:IntKind.i64.wrap ((q:Int)+1)=(q:Int)+1:=bf _ (by omega);obtain⟨z,hz⟩:∃ z,ws[q]?=O z:=⟨_,aB (by rw [<- N5.out]; exact hlt)⟩;obtain⟨p,ix,px⟩:=elW Ns.out rfl N5.out.symm hz;obtain⟨p0,p1,p2⟩:=px wr BE.out;have FS:=L (Bn ws q z (keepW (c,d)) hz);obtain⟨y1,y2,⟨yo,yn,yc⟩⟩:=z;simp only at p0 p1 p2;clear px hz;go_upto_region 5 with fail;clear p0 p1 p2 ix;have NN:=fF wr (aj #[U V y1,U V y2,J yo yn yc] 34);have XE:=L (dO wr #[U V y1,U V y2,J yo yn yc] 34);have Wj:=L (BE.out.trans (NN.mono BE.out.size));have Q9:=L (dI OE.out NN);clear BE OE NN;generalize wr.alloc (aj #[U V y1,U V y2,J yo yn yc] 34)=wa at *;obtain⟨e0_,e1_,e2_⟩:=XE.out.cs3;have y0:=(Nq.out.on Wj.out).cell 0;have y1_:=(Nq.out.on Wj.out).cell 1;simp only [au,ay,aA] at y0 y1_;obtain⟨r,hr⟩:∃ r,(!(y1 == c && y2 == d))=r:=⟨_,rfl⟩;have he:=Ho y1 y2 c d r hr;have KW:=L (show keepW (c,d) (y1,y2,(yo,yn,yc))=r by
    rw [<- hr];unfold keepW;by_cases h1:y1=c <;> by_cases h2:y2=d <;> simp [h1,h2])
   clear hr;cases r
   ·go_wp2_with fail
    go_roundw
    case rel=>exact⟨q+1,hlt,by go_num,Wj.out,by rw [FS.out,KW.out]; simpa using Q9.out⟩
    case measure=>simp [intOf]; omega
   ·have hl:=jm okW wa [((y1,y2,(yo,yn,yc)):oq)] 1 rfl (by simp) #[U V y1,U V y2,J yo yn yc] (by rfl);have NB:=fF wa (aj #[U V y1,U V y2,J yo yn yc] 34);obtain⟨v',x5,q2,o2,g2⟩:=gY okW W.heap.size (dI Q9.out NB) (aL hl) (by have h1:=List.length_filter_le (keepW (c,d)) (ws.take q); rw [aN] at h1; omega) (by simp) (Z Wj.out.size NB.size) 26;have q2:(aQ #[26,26] 26 #[u6,J (O ⟨wa.heap.size,0,X⟩) 1 1]).run aF (wa.alloc (aj #[U V y1,U V y2,J yo yn yc] 34))=.ok v' x5:=q2;have BX:=L ((Wj.out.trans (NB.mono Wj.out.size)).grown g2 (Z Wj.out.size NB.size) (fun j hj=>((dI Q9.out NB).lt j hj).1));have O2:=L o2;clear hl NB o2 g2;go_wp2_with (first | (at_builtin; refine wpList_append_run rfl _ _ 26 rfl rfl rfl q2 ?_) | fail)
    go_roundw
    case rel=>exact⟨q+1,hlt,by go_num,BX.out,by rw [FS.out,KW.out]; simpa using O2.out⟩
    case measure=>simp [intOf]; omega
  ·obtain rfl:dU=q:=by omega
   have et:ws.take dU=ws:=bN (by have:=N5.out; omega);rw [et] at OE;clear et;have FI:=L (show eY (yI w) (ws.filter (keepW (c,d))) (wO b (c,d)) from HW2.out.fil _ _ fun a b h=>by unfold keepW; rw [h.1]);generalize ws.filter (keepW (c,d))=ls at *;obtain⟨la,lc,hlv⟩:=(aL OE.out).len;obtain⟨ln,hln⟩:∃ n,n=ls.length:=⟨_,rfl⟩;rw [<- hln] at hlv;subst hlv;have LN:=L hln;clear hln;have LE:=L (show (wO b (c,d)).length=ln from by rw [LN.out,FI.out.len]);have LO:=L (show b.own.length=dU from by rw [<- HW2.out.len,N5.out]);have jG:=L (gP.out.trans (BE.out.mono gP.out.size));have Wn:=L (Np.out.on BE.out);have wP:=L (Nq.out.on BE.out);have oH:=L (Nr.out.on BE.out);have Im:=L (Ns.out.on BE.out);clear gP Np Nq Nr Ns;obtain⟨x0,x1,x2,x3,x4,x5⟩:=Wn.out.eX;by_cases hll:ln=dU
   ·have hq1:((ln:Int) == (dU:Int))=aT:=by simp [hll]
    have HI:=L (HH.out.on jG.out);obtain⟨r0,r1,r2,r3,r4,r5⟩:=oH.out.eX;obtain⟨xM,vL,Ah,Cq,Cr,Ct⟩:=oH.out.kI;have zz:=oH.out.lt;have GG:=L (dK oH.out (U V me) (J no nn nc) (J ao an ac) (J so sn sc) (J eo en ec) (J oo dU oc));have BL:=L (dG (b:=w.heap.size+1+1) jG.out (by omega) (U V me) (J no nn nc) (J ao an ac) (J so sn sc) (J eo en ec) (J oo dU oc));have HK:=L (fun j (_:j<wr.heap.size) (hj:j≠w.heap.size+1+1)=>dN wr (w.heap.size+1+1) (U V me) (J no nn nc) (J ao an ac) (J so sn sc) (J eo en ec) (J oo dU oc) j hj);have HC:=L (fJ (s1:=(X,0,0)) (s2:=(X,0,0)) (s3:=(X,0,0)) (s4:=(X,0,0)) (s5:=(X,0,0)) HI.out oH.out HK.out (HH.out.near.on BL.out));go_wp2_with fail;obtain⟨v0,v1,v2,v3,v4,v5⟩:=GG.out.eX;refine bodyPost_ret (v:=.tuple #[aP #[U V me,J no nn nc,J ao an ac,J so sn sc,J eo en ec,J oo dU oc],J X 0 0]) (by simp [results,cK,go_sem,v0,v1,v2,v3,v4,v5]) rfl ?_;have hd:jd b (c,d)=(b,[]):=by unfold jd; rw [if_pos (by rw [LE.out,LO.out]; exact hll)]
    rw [hd];exact⟨⟨(eo,en,ec),(oo,dU,oc),(X,0,0),rfl,HC.out,rE _⟩,BL.out⟩
   ·have hq1:((ln:Int) == (dU:Int))=aS:=by simp; omega
    have DB:=L (show jd b (c,d)=ko b (c,d) b.dP.length from by unfold jd; rw [if_neg (by rw [LE.out,LO.out]; exact hll)]);have f5:=Wn.out.fr 5;have zz:=Wn.out.lt;go_upto_region 11 with fail;clear x0 x1 x2 x3 x4 x5;have B2:=L (jG.out.setCell (p:=⟨w.heap.size,5,X⟩) (aG _) (J la ln lc));have X2b:=dZ (k:=5) Wn.out (J la ln lc);simp only [bg,bY,aZ] at X2b;have X3b:dJ _ _ _ _:=(aI wr ⟨w.heap.size,5,X⟩ (J la ln lc) _ (show w.heap.size+1≠w.heap.size by omega)).trans wP.out;have X4b:dJ _ _ _ _:=(aI wr ⟨w.heap.size,5,X⟩ (J la ln lc) _ (show w.heap.size+1+1≠w.heap.size by omega)).trans oH.out;have OL:=L (dX OE.out w.heap.size 5 (J la ln lc) (by have:=W4.out; omega));have BS:=L (show iN _ { b with own:=wO b (c,d) } (no,nn,nc) (ao,an,ac) (so,sn,sc) (eo,en,ec) (la,ln,lc) from ⟨HH.out.near.on B2.out,(HH.out.on B2.out).dP,(HH.out.on B2.out).seen,(HH.out.on B2.out).ent,⟨ls,aL OL.out,FI.out.mono fun _ _ h=>h.on B2.out⟩⟩);clear zz f5 OL OE BE jG Wn wP oH Im;generalize wr.setCell ⟨w.heap.size,5,X⟩ (J la ln lc)=w2 at *;have mP:=L (B2.out);have agn:=L (X2b);have p9:=L (X3b);have qz:=L (X4b);clear B2 X2b X3b X4b;obtain⟨ad0,ha1,ha2⟩:=BS.out.dP;obtain⟨q1,q2,hqv⟩:=ha1.len;obtain rfl:an=b.dP.length:=by have h1:(J ao an ac)=J q1 ad0.length q2:=hqv; have h2:an=ad0.length:=(by simpa using congrArg (fun v=>match v with|Value.slice _ n _=>n|_=>0) h1); rw [h2,ha2.len]
    clear hqv ha1 ha2;obtain⟨an,han⟩:∃ n,n=b.dP.length:=⟨_,rfl⟩;have AN:=L (show b.dP.length<=900 from L2.out);obtain⟨x0,x1,x2,x3,x4,x5⟩:=agn.out.eX;go_wp2_with fail;clear x0 x1 x2 x3 x4 x5
    go_loopw [9,42] (fun v i wr=>∃ (k:Nat) (ea:Option bL) (iI iJ:Nat) (ta:Option bL) (tn tc:Nat),k<=b.dP.length/\i=U V k/\v=J ta tn tc/\Below w.heap.size w wr/\dJ wr w.heap.size #[U V me,J no nn nc,J ao b.dP.length ac,J so sn sc,J ea iI iJ,J la ln lc] 28/\dJ wr (w.heap.size+1) #[U V c,U V d] 31/\dJ wr (w.heap.size+1+1) #[U V 0,J X 0 0,J X 0 0,J X 0 0,J X 0 0,J X 0 0] 28/\iN wr (ko b (c,d) k).1 (no,nn,nc) (ao,b.dP.length,ac) (so,sn,sc) (ea,iI,iJ) (la,ln,lc)/\iW wr (ta,tn,tc) (ko b (c,d) k).2) (fun _ i _=>b.dP.length-(intOf i).toNat)
    case atStart=>exact⟨0,eo,en,ec,X,0,0,bV _,rfl,rfl,mP.out,agn.out,p9.out,qz.out,BS.out,rE _⟩
    case round =>
     clear BS mP agn p9 qz;obtain⟨k,ea,iI,iJ,ta,tn,tc,hk,rfl,rfl,hgb,hx2,hx3,hx4,hbr,hou⟩:=hrel;have PG:=L (hgb);have Wo:=L (hx2);have ab1:=L (hx3);have zJ:=L (hx4);have PI:=L (hbr);have Wp:=L (hou);clear hgb hx2 hx3 hx4 hbr hou;have UK:=L (rF b (c,d) k hk);have l9:=AN.out;by_cases hlt:k<b.dP.length
     ·have hlt':(k:Int)<(b.dP.length:Int):=by omega
      have hw:IntKind.i64.wrap ((k:Int)+1)=(k:Int)+1:=bf _ (by omega);obtain⟨a,hak⟩:∃ a,b.dP[k]?=O a:=⟨_,aB hlt⟩;have US:=L (l7 b (c,d) hak);have PK:=L (sM b (c,d) (fun e=>eD e.p) (fun _ h=>h) OK.out k hk);have TKN:=L (sM b (c,d) (fun e=>e.tree∈b.dP.map Ad.id) (fun _ h=>h) KN.out k hk);obtain⟨ad,Ai,xV⟩:=PI.out.dP;rw [UK.out.1.dP] at xV;obtain⟨z,hz1,hz2⟩:=xV.at k a hak;obtain⟨p,ix,px⟩:=IJ Ai rfl (by rw [xV.len]) hz1;obtain⟨p0,p1,p2,p3⟩:=px wr (ak _ _);obtain⟨z1,z2,⟨z3,z4,z5⟩,z6⟩:=z;simp only at p0 p1 p2 p3;have ZI:=L (show a.id=(z1,z2) from hz2.1.symm);clear px hz1 hz2 Ai xV hak;go_upto_region 15 with fail;clear p0 p1 p2 p3 ix;have NN:=fF wr (aj #[U V z1,U V z2,J z3 z4 z5,U V z6] 74);have zK:=L (PG.out.trans (NN.mono PG.out.size));have Wq:=L (Wo.out.on NN);have Ws:=L (ab1.out.on NN);have ab2:=L (zJ.out.on NN);have Wt:=L (PI.out.on NN);have ab3:=L (Wp.out.on NN);clear PG Wo ab1 zJ PI Wp;clear NN;have Nt:=L (dO wr #[U V z1,U V z2,J z3 z4 z5,U V z6] 74);generalize wr.alloc (aj #[U V z1,U V z2,J z3 z4 z5,U V z6] 74)=wa at *;have DP:=L (FR (ko b (c,d) k).1 (no,nn,nc) (ao,b.dP.length,ac) (so,sn,sc) (ea,iI,iJ) (la,ln,lc) (z1,z2) (c,d) (-1) wa Wt.out (by rw [UK.out.1.dP]; exact AN.out) (Z UK.out.1.len L3.out) PK.out (by rw [UK.out.1.dP]; exact TKN.out));rw [UK.out.1.me,<- ME.out] at DP;obtain⟨x0,x1,x2,x3,x4,x5⟩:=Wq.out.eX;obtain⟨y0,y1⟩:=Ws.out.cs2;obtain⟨zc0,zc1,zc2,zc3⟩:=Nt.out.Ak;rw [ZI.out] at US;have UK2:=L (rF b (c,d) (k+1) hlt);rw [US.out] at UK2;go_wp2_with fail;refine DP.out.mono ?_;rintro e1 w1 ⟨⟨⟨nZ,sj,su⟩,⟨ta2,tn2,tc2⟩,rfl,hbr,hou⟩,hb⟩;clear DP;clear x0 x1 x2 x3 x4 x5 y0 y1 zc0 zc1 zc2 zc3;have FX:=L (zK.out.trans (hb.mono zK.out.size));have ab4:=L (Wq.out.on hb);have Ke:=L (Ws.out.on hb);have ab5:=L (ab2.out.on hb);have aiU:=L (Wt.out.on hb);have ab6:=L (ab3.out.on hb);have agp:=L (Nt.out.on hb);clear zK Wq Ws ab2 Wt ab3 Nt;have BR2:=L hbr;have OU2:=L hou;clear hb hbr hou aiU agp;go_upto_region 16 with fail;have BR3:=L (BR2.out.on (fF w1 (aj #[U V me,J no nn nc,J ao b.dP.length ac,J so sn sc,J nZ sj su,J la ln lc] 28)));have OU3:=L (OU2.out.on (fF w1 (aj #[U V me,J no nn nc,J ao b.dP.length ac,J so sn sc,J nZ sj su,J la ln lc] 28)));clear BR2 OU2;have NN:=fF w1 (aj #[U V me,J no nn nc,J ao b.dP.length ac,J so sn sc,J nZ sj su,J la ln lc] 28);have Kg:=L (FX.out.trans (NN.mono FX.out.size));have PS:=L (ab4.out.on NN);have ab7:=L (Ke.out.on NN);have uj:=L (ab5.out.on NN);have aiV:=L (ab6.out.on NN);clear FX ab4 Ke ab5 ab6;clear NN;have agq:=L (dO w1 #[U V me,J no nn nc,J ao b.dP.length ac,J so sn sc,J nZ sj su,J la ln lc] 28);generalize w1.alloc (aj #[U V me,J no nn nc,J ao b.dP.length ac,J so sn sc,J nZ sj su,J la ln lc] 28)=wb at *;obtain⟨lo,hlo1,hlo2⟩:=aiV.out;obtain⟨ls2,aiW,agr⟩:=OU3.out;have LL:=UK.out.2;have LD:=FU (ko b (c,d) k).1 (z1,z2) (c,d) (-1);have LU:=UK.out.1.len;have l3:=L3.out;have LM:k * (b.ent.length+1)<=900 * 901:=cB (by omega) (by omega);refine aiS _ wb w.heap.size w1.heap.size me no ao so nZ la nn nc b.dP.length ac sn sc sj su ln lc ta ta2 tn tc tn2 tc2 lo ls2 _ _ _ _ _ _ _ _ _ _ _ _ _ _ _ _ _ _ _ _ _ _ _ _ _ _ _ _ _ _ _ _ _ _ _ _ _ _ _ _ _ _ _ _ _ _ _ _ _ _ _ _ _ _ _ _ _ _ _ _ _ _ _ _ _ PS.out agq.out hlo1 aiW (by rw [hlo2.len]; omega) (by rw [agr.len]; omega) ?_;intro x w9 v54 v55 v56 v57 v58 v59 hbx hown hblk hbl;have GX:=L (Kg.out.trans (hbl _ (aG _)));have Y2:=L hbx;have Y3:=L (show dJ _ _ _ _ from (hblk _ ab7.out.lt (by omega)).trans ab7.out);have Y4:=L (show dJ _ _ _ _ from (hblk _ uj.out.lt (by omega)).trans uj.out);have BRX:=L (fJ (s1:=(no,nn,nc)) (s2:=(ao,b.dP.length,ac)) (s3:=(so,sn,sc)) (s4:=(ea,iI,iJ)) (s5:=(la,ln,lc)) BR3.out PS.out hblk (by rw [show (kU (ko b (c,d) k).1 (z1,z2) (c,d) (-1)).1.near=b.near from UK2.out.1.near]; exact HH.out.near.on GX.out));have OA:=L ((Cv (s1:=(no,nn,nc)) (s2:=(ao,b.dP.length,ac)) (s3:=(so,sn,sc)) (s4:=(ea,iI,iJ)) (s5:=(la,ln,lc)) hlo2 PS.out hblk).append (Cv (s1:=(no,nn,nc)) (s2:=(ao,b.dP.length,ac)) (s3:=(so,sn,sc)) (s4:=(ea,iI,iJ)) (s5:=(la,ln,lc)) agr PS.out hblk));obtain⟨ra,rc,hrv⟩:=(aL hown).len;have RR:=L (aL hown);rw [hrv] at RR;rw [hrv];clear hbx hown hblk hbl hlo1 hlo2 aiW agr hrv BR3 OU3;go_wp2_with fail
      go_roundw
      case rel=>exact⟨k+1,nZ,sj,su,ra,_,rc,hlt,by go_num,rfl,GX.out,Y2.out,Y3.out,Y4.out,by rw [US.out]; exact BRX.out,by rw [US.out]; exact⟨_,RR.out,OA.out⟩⟩
      case measure=>simp [intOf]; omega
     ·obtain rfl:k=b.dP.length:=by omega
      obtain⟨x0,x1,x2,x3,x4,x5⟩:=Wo.out.eX;obtain⟨r0,r1,r2,r3,r4,r5⟩:=zJ.out.eX;obtain⟨xM,vL,Ah,Cq,Cr,Ct⟩:=zJ.out.kI;have zz:=zJ.out.lt;have GG:=L (dK zJ.out (U V me) (J no nn nc) (J ao b.dP.length ac) (J so sn sc) (J ea iI iJ) (J la ln lc));have BL:=L (dG (b:=w.heap.size+1+1) PG.out (by omega) (U V me) (J no nn nc) (J ao b.dP.length ac) (J so sn sc) (J ea iI iJ) (J la ln lc));have HK:=L (fun j (_:j<wr.heap.size) (hj:j≠w.heap.size+1+1)=>dN wr (w.heap.size+1+1) (U V me) (J no nn nc) (J ao b.dP.length ac) (J so sn sc) (J ea iI iJ) (J la ln lc) j hj);have HC:=L (fJ (s1:=(X,0,0)) (s2:=(X,0,0)) (s3:=(X,0,0)) (s4:=(X,0,0)) (s5:=(X,0,0)) PI.out zJ.out HK.out (by rw [UK.out.1.near]; exact HH.out.near.on BL.out));have HO:=L (gu (s1:=(X,0,0)) (s2:=(X,0,0)) (s3:=(X,0,0)) (s4:=(X,0,0)) (s5:=(X,0,0)) Wp.out zJ.out HK.out);go_wp2_with fail;obtain⟨v0,v1,v2,v3,v4,v5⟩:=GG.out.eX;refine bodyPost_ret (v:=.tuple #[aP #[U V me,J no nn nc,J ao b.dP.length ac,J so sn sc,J ea iI iJ,J la ln lc],J ta tn tc]) (by simp [results,cK,go_sem,v0,v1,v2,v3,v4,v5]) rfl ?_;rw [DB.out];exact⟨⟨(ea,iI,iJ),(la,ln,lc),(ta,tn,tc),rfl,HC.out,HO.out⟩,BL.out⟩
def Io (B b2 _:Nat) (so:Option bL) (sn sc at_:Nat) (lo hiv:aJ) (z:oq) (lt ld:List oq) (i:Nat) (v:aJ) (x:aH):Prop :=
 match i with
 | 0=>∃ g,v=J (O ⟨g,0,X⟩) 0 0/\B<=g/\dJ x g #[] 34
 | 1=>v=Y (O ⟨b2,5,X⟩)
 | 2=>v=J so sn sc
 | 3=>v=U V (at_:Int)
 | 4=>v=lo
 | 5=>qH x B v lt
 | 6=>v=mW (z.1,z.2.1)
 | 7=>v=dY z.2.2
 | 8=>v=Bb z
 | 9=>qH x B v [z]
 | 10=>qH x B v (lt++[z])
 | 11=>v=Y (O ⟨b2,5,X⟩)
 | 12=>v=J so sn sc
 | 13=>v=U V (at_:Int)
 | 14=>v=hiv
 | 15=>qH x B v (lt++[z]++ld)
 | 16=>v=Y (O ⟨b2,5,X⟩)
 | _=>True
noncomputable def Wu:Code:=((Tryz.f23.body.bind (eO 6)).getD .skip)
theorem Sj (B b2 b3:Nat) (so:Option bL) (sn sc at_:Nat) (lo hiv:aJ) (z:oq) (lt ld:List oq) (i:Nat) (v:aJ) (x x':aH) (h:Io B b2 b3 so sn sc at_ lo hiv z lt ld i v x) (hb:Below x.heap.size x x'):Io B b2 b3 so sn sc at_ lo hiv z lt ld i v x':=by
 by_cases hi:i<17
 ·rcases (by omega:i=0\/i=1\/i=2\/i=3\/i=4\/i=5\/i=6\/i=7\/i=8\/i=9\/i=10\/i=11\/i=12\/i=13\/i=14\/i=15\/i=16) with rfl|rfl|rfl|rfl|rfl|rfl|rfl|rfl|rfl|rfl|rfl|rfl|rfl|rfl|rfl|rfl|rfl
  ·obtain⟨g,h1,h2,h3⟩:=h;exact⟨g,h1,h2,h3.on hb⟩
  ·exact h
  ·exact h
  ·exact h
  ·exact h
  ·exact dI h hb
  ·exact h
  ·exact h
  ·exact h
  ·exact dI h hb
  ·exact dI h hb
  ·exact h
  ·exact h
  ·exact h
  ·exact h
  ·exact dI h hb
  ·exact h
 ·unfold Io
  split <;> first | omega | trivial
theorem ab8 (Q:Exit->Act->aH->Prop) (W:aH) (b2 b3:Nat) (me:Int) (y1 y2 y3 y4:aJ) (so:Option bL) (sn sc at_:Nat) (l:List oq) (z:oq) (u0 u1 u5 u6 u7 u9 u10 u11 u12 u13 u14 u15 u16 u17 u18 u19 u20 u21 u22 u23 u24 u25 u26 u27 u28 u29 u30 u31 u32 u33 u34 u35 u36 u37 u38 u39 u40 u41 u42 u43 u44 u45 u46 u47 u48 u49 u50 u51 u52 u53 u54 u55 u56 u57 u58 u59 u60 u61 u62 u63 u64 u65 u66 u67 u68 u69 u70 u71 u72 u73 u74 u75 u76 u77 u78 u79 u80 u81 u82 u83 u84 u85 u86 u87 u88 u89 u90 u91 u92 u93 u94 u95 u96 u97 u98:aJ)
  (h2:dJ W b2 #[U V me,y1,y2,y3,y4,J so sn sc] 28) (hx:∀ x,Below W.heap.size W x->∀ j u,(jY (z.1,z.2.1))[j]?=O u->x.cell? ((⟨b3,0,X⟩:bL).add j)=O u) (hs:QN W (J so sn sc) l) (hat:at_<=l.length) (hlen:l.length<=900)
  (hQ:∀ (x:aH) (v47 v48 v49 v50 v51 v52 v53 v54 v55 v56 v57 v58 v59 v60 v61 v62 v63:aJ),dJ x b2 #[U V me,y1,y2,y3,y4,v62] 28->qH x W.heap.size v62 (l.take at_++[z]++l.drop at_)->(∀ B,B<=b2->Below B W x)->(∀ c cs t,c≠b2->dJ W c cs t->dJ x c cs t)->(∀ k,k<W.heap.size->k≠b2->x.heap[k]?=W.heap[k]?)->Q .normal ⟨(u0::u1::dY z.2.2::Y (O ⟨b2,0,X⟩)::Y (O ⟨b3,0,X⟩)::u5::u6::u7::U V (at_:Int)::u9::u10::u11::u12::u13::u14::u15::u16::u17::u18::u19::u20::u21::u22::u23::u24::u25::u26::u27::u28::u29::u30::u31::u32::u33::u34::u35::u36::u37::u38::u39::u40::u41::u42::u43::u44::u45::u46::v47::v48::v49::v50::v51::v52::v53::v54::v55::v56::v57::v58::v59::v60::v61::v62::v63::u64::u65::u66::u67::u68::u69::u70::u71::u72::u73::u74::u75::u76::u77::u78::u79::u80::u81::u82::u83::u84::u85::u86::u87::u88::u89::u90::u91::u92::u93::u94::u95::u96::u97::u98::[]).toArray,[]⟩ x) :
  Code.wp aF Wu Q ⟨(u0::u1::dY z.2.2::Y (O ⟨b2,0,X⟩)::Y (O ⟨b3,0,X⟩)::u5::u6::u7::U V (at_:Int)::u9::u10::u11::u12::u13::u14::u15::u16::u17::u18::u19::u20::u21::u22::u23::u24::u25::u26::u27::u28::u29::u30::u31::u32::u33::u34::u35::u36::u37::u38::u39::u40::u41::u42::u43::u44::u45::u46::u47::u48::u49::u50::u51::u52::u53::u54::u55::u56::u57::u58::u59::u60::u61::u62::u63::u64::u65::u66::u67::u68::u69::u70::u71::u72::u73::u74::u75::u76::u77::u78::u79::u80::u81::u82::u83::u84::u85::u86::u87::u88::u89::u90::u91::u92::u93::u94::u95::u96::u97::u98::[]).toArray,[]⟩ W:=by
 have HQ:=L hQ;have H2:=L h2;have LX:=L hx;obtain⟨lo,DN,wU⟩:=wu okW hs at_ (by omega);obtain⟨hiv,DT,yK⟩:=qE okW hs (at_) hat;have LT:=L (show (l.take at_).length<=1000 by rw [aN]; omega);have T9:=L (show (l.take at_).length<=900 by rw [aN]; omega);have LD:=L (show (l.drop (at_)).length<=1000 by rw [bK]; omega);generalize l.take at_=lt at *;generalize l.drop (at_)=ld at *;have SL:=L DN;have SH:=L DT;have RL:=L wU;have RH:=L yK;clear hQ h2 hx hs DN DT wU yK hat hlen;have iO:=Sj W.heap.size b2 b3 so sn sc at_ lo hiv z lt ld;unfold Wu
 conv=>arg 2; whnf
 have nd:∀ j,(j<47\/64<=j)->∀ i,i<17->(fun i=>47+i) i≠j:=by
  intro j hj i hi h;simp only at h;omega
 refine Rg.fQ 18 17 (fun i=>47+i) (fun i=>if i=0 then 5 else if i=5 then 10 else if i=9 then 10 else if i=10 then 15 else 17) (Io W.heap.size b2 b3 so sn sc at_ lo hiv z lt ld) (by kernel_rfl) (by kernel_rfl) rfl (by decide) (fun i j _ _ h=>by have h2:47+i=47+j:=h; omega) (fun i hi=>by show 47+i<99; omega) ?_ (fun _=>Rg.jq 1 (by kernel_rfl)) (fun kk o h1 h2=>by omega) ?_
 ·intro i o hi ho a x D hnd hc hD hb seen K hK;clear HQ;rcases (by omega:i=0\/i=1\/i=2\/i=3\/i=4\/i=5\/i=6\/i=7\/i=8\/i=9\/i=10\/i=11\/i=12\/i=13\/i=14\/i=15\/i=16) with rfl|rfl|rfl|rfl|rfl|rfl|rfl|rfl|rfl|rfl|rfl|rfl|rfl|rfl|rfl|rfl|rfl
  ·cases ho;exact aD rfl rfl (dx a.eval _ 26 0 #[] rfl rfl (by simp [go_sem])) (hK (J (O ⟨x.heap.size,0,X⟩) 0 0) (x.alloc (aj #[] 34)) ⟨x.heap.size,rfl,hb.size,dO x #[] 34⟩ ((ak _ _).alloc hb.size _) fun j u _ _ _ _ _ h=>iO j u _ _ h ((ak _ _).alloc (aG _) _))
  ·cases ho;have e3:a.eval (ah 3)=Y (O ⟨b2,0,X⟩):=seen.kp 3 _ (nd 3 (by omega)) rfl;exact aD rfl rfl (dh a.eval _ 28 (ah 3) 5 rfl (by rw [e3]; simp [go_sem])) (hK _ _ rfl (ak _ _) fun _ _ _ _ _ _ _ h=>h)
  ·cases ho;have e48:a.eval (ah 48)=Y (O ⟨b2,5,X⟩):=seen.at_ ⟨1,.data⟩ (by simp) rfl (aC (by decide));have y:=(H2.out.on hb).cell 5;simp only [au,ay,aA] at y;exact aD rfl rfl (bQ a.eval _ 26 (ah 48) rfl (by rw [e48]; simp [go_sem,y])) (hK _ _ rfl (ak _ _) fun _ _ _ _ _ _ _ h=>h)
  ·cases ho;have e8:a.eval (ah 8)=U V (at_:Int):=seen.kp 8 _ (nd 8 (by omega)) rfl;exact aD rfl rfl (cO a.eval _ (ah 8) rfl x) (hK _ _ e8 (ak _ _) fun _ _ _ _ _ _ _ h=>h)
  ·cases ho;have e49:a.eval (ah 49)=J so sn sc:=seen.at_ ⟨2,.data⟩ (by simp) rfl (aC (by decide));have e50:a.eval (ah 50)=U V (at_:Int):=seen.at_ ⟨3,.data⟩ (by simp) rfl (aC (by decide));exact aD rfl rfl (Rg.kS a.eval _ 26 (ah 49) X (O (ah 50)) X rfl (by show (Instr.sliceAt 26 (a.eval (ah 49)) X (O (a.eval (ah 50))) X).run aF x=.ok lo x; rw [e49,e50]; exact SL.out x)) (hK _ _ rfl (ak _ _) fun _ _ _ _ _ _ _ h=>h)
  ·cases ho;obtain⟨g,q0,hBg,hbx⟩:=seen.at_ ⟨0,.data⟩ (by simp) rfl (bI rfl);have q0:a.eval (ah 47)=J (O ⟨g,0,X⟩) 0 0:=q0;have e51:a.eval (ah 51)=lo:=seen.at_ ⟨4,.data⟩ (by simp) rfl (aC (by decide));obtain⟨v',x',r,o',gr⟩:=gZ okW W.heap.size hbx hBg (RL.out.on hb) LT.out 26;exact aD rfl rfl (dn a.eval _ (ah 47) (ah 51) 26 rfl q0 e51 r) (hK v' x' o' (gr.mono hb.size) fun j u _ _ _ _ _ h=>iO j u _ _ h gr)
  ·cases ho;have e4:a.eval (ah 4)=Y (O ⟨b3,0,X⟩):=seen.kp 4 _ (nd 4 (by omega)) rfl;exact aD rfl rfl (bQ a.eval _ 31 (ah 4) rfl (by rw [e4]; exact Ej x _ (z.1,z.2.1) (LX.out x hb))) (hK _ _ rfl (ak _ _) fun _ _ _ _ _ _ _ h=>h)
  ·cases ho;have e2:a.eval (ah 2)=dY z.2.2:=seen.kp 2 _ (nd 2 (by omega)) rfl;exact aD rfl rfl (cO a.eval _ (ah 2) rfl x) (hK _ _ e2 (ak _ _) fun _ _ _ _ _ _ _ h=>h)
  ·cases ho;have e53:a.eval (ah 53)=mW (z.1,z.2.1):=seen.at_ ⟨6,.data⟩ (by simp) rfl (aC (by decide));have e54:a.eval (ah 54)=dY z.2.2:=seen.at_ ⟨7,.data⟩ (by simp) rfl (aC (by decide));exact aD rfl rfl (Rg.jZ a.eval _ 34 #[(0,ah 53),(1,ah 54)] rfl (ps:=#[(0,mW (z.1,z.2.1)),(1,dY z.2.2)]) (by simp only [aV,bJ,bM,e53,e54]) (by simp [go_sem])) (hK _ _ rfl (ak _ _) fun _ _ _ _ _ _ _ h=>h)
  ·cases ho;have e55:a.eval (ah 55)=Bb z:=seen.at_ ⟨8,.data⟩ (by simp) rfl (aC (by decide));have hl:=jm okW x [z] 1 rfl (by simp) (wC z).toArray (by simp [flat,EW]);have hl:qH (x.alloc (aj (wC z).toArray 34)) x.heap.size (J (O ⟨x.heap.size,0,X⟩) 1 1) [z]:=hl;exact aD rfl rfl (dx a.eval _ 26 1 #[(0,ah 55)] rfl (ps:=#[(0,Bb z)]) (by simp [e55]) (by simp [go_sem])) (hK (J (O ⟨x.heap.size,0,X⟩) 1 1) (x.alloc (aj (wC z).toArray 34)) (dM hl hb.size) ((ak _ _).alloc hb.size _) fun j u _ _ _ _ _ h=>iO j u _ _ h ((ak _ _).alloc (aG _) _))
  ·cases ho;have o52:qH x W.heap.size (a.eval (ah 52)) (lt):=seen.at_ ⟨5,.data⟩ (by simp) rfl (bI rfl);have o56:qH x W.heap.size (a.eval (ah 56)) ([z]):=seen.at_ ⟨9,.data⟩ (by simp) rfl (bI rfl);have ox:=aL o56;obtain⟨v',x',r,o',gr⟩:=gY okW W.heap.size o52 ox (by have:=LT.out; omega) (by simp) hb.size 26;exact aD rfl rfl (dn a.eval _ (ah 52) (ah 56) 26 rfl rfl rfl r) (hK v' x' o' ((ak _ x).grown gr hb.size fun j hj=>(o52.lt j hj).1) fun j u hj dj nl nx ni h=>by
    rcases (by omega:j=0\/j=1\/j=2\/j=3\/j=4\/j=5\/j=6\/j=7\/j=8\/j=9\/j=10\/j=11\/j=12\/j=13\/j=14\/j=15\/j=16) with rfl|rfl|rfl|rfl|rfl|rfl|rfl|rfl|rfl|rfl|rfl|rfl|rfl|rfl|rfl|rfl|rfl
    ·exact absurd rfl (fun _:(0:Nat)=0=>nl (hc 5 _ (hD ⟨5,.data⟩ (by simp) rfl) rfl ⟨0,.data⟩ (by simp) rfl |> fun _=>hD ⟨5,.data⟩ (by simp) rfl))
    ·exact h
    ·exact h
    ·exact h
    ·exact h
    ·exact absurd rfl (fun _:(0:Nat)=0=>nx rfl)
    ·exact h
    ·exact h
    ·exact h
    ·exact absurd rfl (fun _:(0:Nat)=0=>nx rfl)
    ·exact absurd rfl (fun _:(0:Nat)=0=>ni rfl)
    ·exact h
    ·exact h
    ·exact h
    ·exact h
    ·exact absurd rfl (fun _:(0:Nat)=0=>hnd (hc 15 _ dj rfl ⟨10,.data⟩ (by simp) rfl))
    ·exact h)
  ·cases ho;have e3:a.eval (ah 3)=Y (O ⟨b2,0,X⟩):=seen.kp 3 _ (nd 3 (by omega)) rfl;exact aD rfl rfl (dh a.eval _ 28 (ah 3) 5 rfl (by rw [e3]; simp [go_sem])) (hK _ _ rfl (ak _ _) fun _ _ _ _ _ _ _ h=>h)
  ·cases ho;have e58:a.eval (ah 58)=Y (O ⟨b2,5,X⟩):=seen.at_ ⟨11,.data⟩ (by simp) rfl (aC (by decide));have y:=(H2.out.on hb).cell 5;simp only [au,ay,aA] at y;exact aD rfl rfl (bQ a.eval _ 26 (ah 58) rfl (by rw [e58]; simp [go_sem,y])) (hK _ _ rfl (ak _ _) fun _ _ _ _ _ _ _ h=>h)
  ·cases ho;have e8:a.eval (ah 8)=U V (at_:Int):=seen.kp 8 _ (nd 8 (by omega)) rfl;exact aD rfl rfl (cO a.eval _ (ah 8) rfl x) (hK _ _ e8 (ak _ _) fun _ _ _ _ _ _ _ h=>h)
  ·cases ho;have e59:a.eval (ah 59)=J so sn sc:=seen.at_ ⟨12,.data⟩ (by simp) rfl (aC (by decide));have e60:a.eval (ah 60)=U V (at_:Int):=seen.at_ ⟨13,.data⟩ (by simp) rfl (aC (by decide));exact aD rfl rfl (Rg.kS a.eval _ 26 (ah 59) (O (ah 60)) X X rfl (by show (Instr.sliceAt 26 (a.eval (ah 59)) (O (a.eval (ah 60))) X X).run aF x=.ok hiv x; rw [e59,e60]; exact SH.out x)) (hK _ _ rfl (ak _ _) fun _ _ _ _ _ _ _ h=>h)
  ·cases ho;have o57:qH x W.heap.size (a.eval (ah 57)) ((lt++[z])):=seen.at_ ⟨10,.data⟩ (by simp) rfl (bI rfl);have e61:a.eval (ah 61)=hiv:=seen.at_ ⟨14,.data⟩ (by simp) rfl (aC (by decide));have ox:QN x (a.eval (ah 61)) ld:=by rw [e61]; exact RH.out.on hb
   obtain⟨v',x',r,o',gr⟩:=gY okW W.heap.size o57 ox (by have:=T9.out; rw [aK,List.length_singleton]; omega) LD.out hb.size 26;exact aD rfl rfl (dn a.eval _ (ah 57) (ah 61) 26 rfl rfl rfl r) (hK v' x' o' ((ak _ x).grown gr hb.size fun j hj=>(o57.lt j hj).1) fun j u hj dj nl nx ni h=>by
    rcases (by omega:j=0\/j=1\/j=2\/j=3\/j=4\/j=5\/j=6\/j=7\/j=8\/j=9\/j=10\/j=11\/j=12\/j=13\/j=14\/j=15\/j=16) with rfl|rfl|rfl|rfl|rfl|rfl|rfl|rfl|rfl|rfl|rfl|rfl|rfl|rfl|rfl|rfl|rfl
    ·exact absurd rfl (fun _:(0:Nat)=0=>nl (hc 10 _ (hD ⟨10,.data⟩ (by simp) rfl) rfl ⟨5,.data⟩ (by simp) rfl))
    ·exact h
    ·exact h
    ·exact h
    ·exact h
    ·exact absurd rfl (fun _:(0:Nat)=0=>nl (hD ⟨10,.data⟩ (by simp) rfl))
    ·exact h
    ·exact h
    ·exact h
    ·exact absurd rfl (fun _:(0:Nat)=0=>nl (hD ⟨10,.data⟩ (by simp) rfl))
    ·exact absurd rfl (fun _:(0:Nat)=0=>nx rfl)
    ·exact h
    ·exact h
    ·exact h
    ·exact h
    ·exact absurd rfl (fun _:(0:Nat)=0=>ni rfl)
    ·exact h)
  ·cases ho;have e3:a.eval (ah 3)=Y (O ⟨b2,0,X⟩):=seen.kp 3 _ (nd 3 (by omega)) rfl;exact aD rfl rfl (dh a.eval _ 28 (ah 3) 5 rfl (by rw [e3]; simp [go_sem])) (hK _ _ rfl (ak _ _) fun _ _ _ _ _ _ _ h=>h)
 ·intro a w' df sz kp ⟨vs,hv⟩ hb;have gr:a.tmps[62]?=O (vs 15):=(hv 15 (by omega)).1;have gp:a.tmps[63]?=O (Y (O ⟨b2,5,X⟩)):=by
   have h:vs 16=Y (O ⟨b2,5,X⟩):=(hv 16 (by omega)).2 (by decide);rw [<- h];exact (hv 16 (by omega)).1
  have oR:qH w' W.heap.size (vs 15) (lt++[z]++ld):=(hv 15 (by omega)).2 (by decide);generalize vs 15=xR at *;obtain⟨ca,cp,eR⟩:=(aL oR).len;have hbx:=H2.out.on hb;have hblt:=H2.out.lt;have c5:=hbx.cell 5;have f5:=hbx.fr 5;simp only [au,ay,aA] at c5;have hb1:=dZ (k:=5) hbx xR;show Rg.fH _ _ _ 1 17 a w';simp only [Rg.fH];refine Rg.fT 26 (ah 63) (ah 62) rfl rfl rfl rfl (dB gp) (dB gr) (w':=w'.setCell ⟨b2,5,X⟩ xR) (by rw [eR]; simp [go_sem,c5,f5]) ?_;have qI:∀ j,(j<47\/64<=j)->a.tmps[j]?=(u0::u1::dY z.2.2::Y (O ⟨b2,0,X⟩)::Y (O ⟨b3,0,X⟩)::u5::u6::u7::U V (at_:Int)::u9::u10::u11::u12::u13::u14::u15::u16::u17::u18::u19::u20::u21::u22::u23::u24::u25::u26::u27::u28::u29::u30::u31::u32::u33::u34::u35::u36::u37::u38::u39::u40::u41::u42::u43::u44::u45::u46::u47::u48::u49::u50::u51::u52::u53::u54::u55::u56::u57::u58::u59::u60::u61::u62::u63::u64::u65::u66::u67::u68::u69::u70::u71::u72::u73::u74::u75::u76::u77::u78::u79::u80::u81::u82::u83::u84::u85::u86::u87::u88::u89::u90::u91::u92::u93::u94::u95::u96::u97::u98::[])[j]?:=fun j hj=>(kp j (nd j hj)).trans au;obtain⟨mid,hmid,rfl⟩:=Rg.gJ 47 17 df sz (by simp) qI
  match mid,hmid with
  | [v47,v48,v49,v50,v51,v52,v53,v54,v55,v56,v57,v58,v59,v60,v61,v62,v63],_ =>
   have e1:O v62=O xR:=gr;obtain rfl:=aY e1;refine HQ.out _ v47 v48 v49 v50 v51 v52 v53 v54 v55 v56 v57 v58 v59 v60 v61 v62 v63 ?_ ?_ ?_ ?_ ?_
   ·simpa using hb1
   ·exact dX oR b2 5 _ hblt
   ·exact fun B hB=>(hb.mono (aU (bD hB hblt))).setCell hB _
   ·intro c cs t hc hbc;exact (aI _ _ _ _ hc).trans (hbc.on hb)
   ·intro k hk hne;exact (aI _ _ _ _ hne).trans (hb.block k hk)
end Go.Proofs.YtmklifheakemeaaGreat.Bk
