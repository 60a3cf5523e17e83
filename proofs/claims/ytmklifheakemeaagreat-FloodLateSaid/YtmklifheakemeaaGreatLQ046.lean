/-
  What taking an adver. Conditions as told.
-/
import Derived.Test.YtmklifheakemeaaGreatLQ045
set_option maxRecDepth 100000
set_option maxHeartbeats 64000000
open _root_.Bool renaming true->aj,false->aN
open _root_.Go renaming Addr->aI
open Go.IntKind renaming i64->O
open Go.Lib renaming hid->D
open Go.Obj renaming cells->Z
open Go.Proofs.Tryz renaming prog->ay
open Go.Value renaming slice->J,int->K,pointer->aA,bool->aL
open _root_.List renaming length_append->Q,filter_append->V,mem_of_getElem?->X,mem_singleton->Y,getElem?_eq_getElem->au,take_append_drop->aD,filter_eq_self->aG,take_add_one->aJ,take_length->aK,length_map->aM
open List.Pairwise renaming nil->ah
open _root_.Nat renaming le_trans->aB,le_refl->aF
open _root_.Option renaming none->U,some->ak,toList_some->aH
open Option.some renaming inj->aC
namespace Go.Proofs.YtmklifheakemeaaGreat.Fl
open Go.RowKit Go.Sort Rw YtmklifheakemeaaGreat.Nm Pr Bk Av Rl Sb
structure Cut (b c:Br) (t:fB) (f:Int):Prop where
 dV:nR c f []
 none_:fT c.dV t=U
 un:vY c f t=(c,[])
 anew:fD c f t []=(c,[])
 len:c.dV.length+1=b.dV.length
 br:nP c.ent t=[]
 seen:t∈c.seen
 mem:∀ e∈b.ent,e.tree≠t->e∈c.ent
structure Ze (b:Br):Prop where
 few:Kn b
 pX:uF b
 ok:jE b
 pe:∀ e∈b.ent,dW e.p
theorem O7 {b:Br} {f:Int} {p:List C5} (h:nR b f p) (x:fB):Ze (fD b f x p).1:=by
 have hl:=zl (x:=x) h;have hok:=oF h.ok ⟨x,p,f⟩ h.co h.rp;obtain⟨m1,m2,m3,m4⟩:=kH b ⟨x,p,f⟩;have hpe:∀ e∈(eO b ⟨x,p,f⟩).1.ent,dW e.p:=by rw [m3]; exact h.pe
 have hpo:∀ o∈(eO b ⟨x,p,f⟩).1.own,dW o.p:=by rw [m4]; exact h.po
 rw [zk]
 split
 ·exact⟨hl.1,hl.2,hok,hpe⟩
 ·have hj:=(xg hok hpe hpo f x p [] _ (aF _)).1;exact⟨hj.few hl.1 (by rw [m3,m4]; exact h.lo) (aF _),hj.pX hl.2,hj.ok,hj.pe⟩
def jF (i:Nat):fB:=(((i % 4:Nat):Int),(i:Int))
theorem sZ {i j:Nat} (h:jF i=jF j):i=j:=by
 have:=congrArg Prod.snd h;simp only [jF] at this;omega
abbrev late0:Br:=⟨0,[1,2],[],[],[],[]⟩
theorem xB:KI 0 late0:=Wo 2 (by decide)
def ny (q:Nat->List C5) (b:Br):Nat->Br
 | 0=>b
 | k+1=>(iE (ny q b k) (jF k) (q k)).1
def nO (q:Nat->List C5) (P:List C5):Nat->Nat
 | 0=>0
 | k+1=>nO q P k+(if fJ (q k) P=aj then 1 else 0)
theorem zX (q:Nat->List C5) (P:List C5):∀ k,nO q P k<=k
 | 0=>aF _
 | k+1=>by
  have:=zX q P k;unfold nO
  split <;> omega
theorem zq {α:Type} (f:α->Bool) (l:List α) (k:Nat) (a:α):((fC l k a).filter f).length=(l.filter f).length+(if f a=aj then 1 else 0):=by
 have h:(l.filter f).length=((l.take k).filter f).length+((l.drop k).filter f).length:=by
  rw [<- Q,<- V,aD]
 unfold fC;rw [V,V,Q,Q,h];by_cases e:f a=aj
 ·simp [e]; omega
 ·simp [e]
theorem Ia {α:Type} (l:List α) (k:Nat) (a:α):(fC l k a).length=l.length+1:=by
 unfold fC;have h:l.length=(l.take k).length+(l.drop k).length:=by rw [<- Q,aD]
 rw [Q,Q,h];simp;omega
structure LB (q:Nat->List C5) (P:List C5) (k:Nat) (b:Br):Prop where
 ki:KI k b
 me:b.me=0
 near:b.near=[1,2]
 dV:b.dV=[]
 seen:b.seen=[]
 ent:b.ent=[]
 own:∀ o∈b.own,∃ i,i<k/\o=⟨jF i,q i⟩
 cnt:(b.own.filter fun o=>fJ o.p P).length=nO q P k
theorem Ib {b:Br} {x:fB} (h:∀ o∈b.own,o.id≠x) (p:List C5):iE b x p=dU b.dV (iN x p) (ownIn b x p,[]) b.dV.length:=by
 unfold iE;refine if_neg fun e=>?_;cases ho:b.own[fU (b.own.map Ow.id) x]? with
 | none=>rw [ho] at e; cases e
 | some o =>
  rw [ho] at e;exact h o (X ho) (aC e)
theorem Wq (q:Nat->List C5) (P:List C5):LB q P 0 late0:=⟨xB,rfl,rfl,rfl,rfl,rfl,by simp,rfl⟩
theorem Ru {q:Nat->List C5} {P:List C5} {k:Nat} {b:Br} (h:LB q P k b) (hk:k<12) (hp:dW (q k)) (hr:Wr.iG (q k)=aj):LB q P (k+1) (iE b (jF k) (q k)).1:=by
 have hki:=h.ki.subs hk (jF k) (q k) hr hp;have e:iE b (jF k) (q k)=(ownIn b (jF k) (q k),[]):=by
  rw [Ib fun o ho e=>by
   obtain⟨i,hi,rfl⟩:=h.own o ho;exact absurd (sZ e) (by omega)]
  rw [h.dV]
  rfl
 rw [e] at hki ⊢;refine⟨hki,h.me,h.near,h.dV,h.seen,h.ent,fun o ho=>?_,?_⟩
 ·rcases (gY _ _ _ _).1 (show o∈fC b.own _ _ from ho) with rfl|h1
  ·exact⟨k,by omega,rfl⟩
  ·obtain⟨i,hi,e2⟩:=h.own o h1;exact⟨i,by omega,e2⟩
 ·show ((fC b.own _ _).filter _).length=_;rw [zq,h.cnt]
  rfl
structure LC (q:Nat->List C5) (P:List C5) (t:fB) (f:Int) (k:Nat) (c:Br):Prop where
 ki:KI (k+1) c
 me:c.me=0
 near:c.near=[1,2]
 dV:c.dV=[⟨t,P,f⟩]
 own:∀ o∈c.own,∃ i,i<k/\o.id=jF i
 all:∀ i,i<k->fJ (q i) P=aj->∃ e∈c.ent,e.tree=t/\e.sub=jF i/\e.p=q i/\e.from_=-1
 only:∀ e∈c.ent,∃ i,i<k/\e.tree=t/\e.sub=jF i
 len:c.ent.length=nO q P k
theorem Ic {b:Br} {t:fB} {P:List C5} {f:Int} (hr:iX b.ent) (ha:b.dV=[⟨t,P,f⟩]) {x:fB} {p:List C5} (hn:∀ y∈b.ent,¬ (y.tree=t/\y.sub=x)) :
  ∃ u:Bool,(u=aj->f≠-1)/\iB b ⟨t,x,p,-1,aN⟩=({ b with ent:=fC b.ent (dX (b.ent.map fA) (t,x)) ⟨t,x,p,-1,u⟩ },u):=by
 have hf:fT b.dV t=ak ⟨t,P,f⟩:=by rw [ha]; simp [fT]
 rcases J9 hr (⟨t,x,p,-1,aN⟩:En) (fun y hy e=>hn y hy ⟨congrArg Prod.fst e,congrArg Prod.snd e⟩) with⟨h,_⟩|⟨a,h,h2,h3,_⟩|⟨a,u,h,_,h3,h4,_⟩
 ·rw [show fT b.dV (⟨t,x,p,-1,aN⟩:En).tree=ak ⟨t,P,f⟩ from hf] at h; cases h
 ·rw [show fT b.dV (⟨t,x,p,-1,aN⟩:En).tree=ak ⟨t,P,f⟩ from hf] at h;obtain rfl:=aC h;exact absurd h2.symm h3
 ·rw [show fT b.dV (⟨t,x,p,-1,aN⟩:En).tree=ak ⟨t,P,f⟩ from hf] at h;obtain rfl:=aC h;exact⟨u,h3,h4⟩
theorem Ws (q:Nat->List C5) (P:List C5) (t:fB) (f:Int) (hc:jR [1,2] f=aj) (hp:dW P) (hr:Wr.iG P=aj):LC q P t f 0 (fD late0 f t P).1 :=
 ⟨xB.dV (by decide) f t P hc hr hp,rfl,rfl,rfl,by intro o ho; exact absurd ho (by simp [fD,eO,dU]),fun i hi=>absurd hi (Nat.not_lt_zero _),by intro e he; exact absurd he (by simp [fD,eO,dU]),rfl⟩
theorem Rv {q:Nat->List C5} {P:List C5} {t:fB} {f:Int} {k:Nat} {c:Br} (h:LC q P t f k c) (hk:k<11) (hp:dW (q k)) (hr:Wr.iG (q k)=aj):LC q P t f (k+1) (iE c (jF k) (q k)).1:=by
 have hki:=h.ki.subs (by omega) (jF k) (q k) hr hp;have e:iE c (jF k) (q k)=fK (ownIn c (jF k) (q k),[]) (fJ (q k) P) ⟨t,jF k,q k,-1,aN⟩ f:=by
  rw [Ib fun o ho e=>by
   obtain⟨i,hi,e2⟩:=h.own o ho;exact absurd (sZ (e2.symm.trans e)) (by omega)]
  rw [h.dV]
  rfl
 have how:∀ o∈(ownIn c (jF k) (q k)).own,∃ i,i<k+1/\o.id=jF i:=by
  intro o ho;rcases (gY _ _ _ _).1 (show o∈fC c.own _ _ from ho) with rfl|h1
  ·exact⟨k,by omega,rfl⟩
  ·obtain⟨i,hi,e2⟩:=h.own o h1;exact⟨i,by omega,e2⟩
 rw [e] at hki ⊢;unfold fK at hki ⊢;by_cases hm:fJ (q k) P=aj
 ·rw [if_neg (by simp [hm])] at hki ⊢;have hrE:iX (ownIn c (jF k) (q k)).ent:=h.ki.ok.ent;obtain⟨u,hu,ea⟩:=Ic hrE (show (ownIn c (jF k) (q k)).dV=[⟨t,P,f⟩] from h.dV) (x:=jF k) (p:=q k) (fun y hy ⟨_,h2⟩=>by
   obtain⟨i,hi,_,e3⟩:=h.only y hy;exact absurd (sZ (e3.symm.trans h2)) (by omega))
  rw [ea] at hki ⊢;refine⟨hki,h.me,h.near,h.dV,how,?_,?_,?_⟩
  ·intro i hi hmi;rcases Nat.lt_succ_iff_lt_or_eq.1 hi with h1|rfl
   ·obtain⟨z,hz,h2⟩:=h.all i h1 hmi;exact⟨z,(gY _ _ _ _).2 (Or.inr hz),h2⟩
   ·exact⟨_,(gY _ _ _ _).2 (Or.inl rfl),rfl,rfl,rfl,rfl⟩
  ·intro z hz;rcases (gY _ _ _ _).1 hz with rfl|h1
   ·exact⟨k,by omega,rfl,rfl⟩
   ·obtain⟨i,hi,h2⟩:=h.only z h1;exact⟨i,by omega,h2⟩
  ·show (fC c.ent _ _).length=_;rw [Ia,h.len];show nO q P k+1=nO q P k+(if fJ (q k) P=aj then 1 else 0);rw [if_pos hm]
 ·rw [if_pos (by simpa using hm)] at hki ⊢;refine⟨hki,h.me,h.near,h.dV,how,?_,?_,?_⟩
  ·intro i hi hmi;rcases Nat.lt_succ_iff_lt_or_eq.1 hi with h1|rfl
   ·exact h.all i h1 hmi
   ·exact absurd hmi hm
  ·intro z hz;obtain⟨i,hi,h2⟩:=h.only z hz;exact⟨i,by omega,h2⟩
  ·show c.ent.length=_;rw [h.len];show nO q P k=nO q P k+(if fJ (q k) P=aj then 1 else 0);rw [if_neg hm]
   rfl
structure LD (L:Br) (oo:List Ou) (t:fB) (P:List C5) (f:Int) (j:Nat) (s:Br×List Ou):Prop where
 dV:s.1.dV=[⟨t,P,f⟩]
 only:∀ e∈s.1.ent,∃ i o,i<j/\L.own[i]?=ak o/\fJ o.p P=aj/\e.tree=t/\e.sub=o.id/\e.p=o.p/\e.from_=-1
 len:s.1.ent.length=((L.own.take j).filter fun o=>fJ o.p P).length
 out:s.2.length=oo.length+(s.1.ent.filter fun e=>e.up).length
 up:f=-1->∀ e∈s.1.ent,e.up=aN
theorem Ie {L:Br} (hok:jE L) (pe:∀ e∈L.ent,dW e.p) (po:∀ o∈L.own,dW o.p) {t:fB} {P:List C5} {f:Int} (ha:L.dV=[⟨t,P,f⟩]) (he:L.ent=[]) (oo:List Ou):∀ j,j<=L.own.length->LD L oo t P f j (dU L.own (iV f t P) (L,oo) j)
 | 0,_=>by
  show LD L oo t P f 0 (L,oo);refine⟨ha,?_,?_,?_,?_⟩
  ·intro e h;rw [show (L,oo).1.ent=[] from he] at h;cases h
  ·rw [show (L,oo).1.ent=[] from he]; rfl
  ·rw [show (L,oo).1.ent=[] from he]; rfl
  ·intro _ e h;rw [show (L,oo).1.ent=[] from he] at h;cases h
 | j+1,hj=>by
  obtain⟨a,haj⟩:∃ a,L.own[j]?=ak a:=⟨_,au hj⟩;have ih:=Ie hok pe po ha he oo j (by omega);have hrE:iX (dU L.own (iV f t P) (L,oo) j).1.ent:=(xg hok pe po f t P oo j (by omega)).1.ok.ent;rw [jy _ _ haj];generalize dU L.own (iV f t P) (L,oo) j=s at ih hrE ⊢;show LD L oo t P f (j+1) (fK s (fJ a.p P) (mV t a) f);have htk:((L.own.take (j+1)).filter fun o=>fJ o.p P).length=((L.own.take j).filter fun o=>fJ o.p P).length+(if fJ a.p P=aj then 1 else 0):=by
   rw [aJ,haj,V,Q];simp only [aH,List.filter_cons,List.filter_nil]
   split <;> simp
  unfold fK;by_cases hm:fJ a.p P=aj
  ·rw [if_neg (by simp [hm])];obtain⟨u,hu,ea⟩:=Ic hrE ih.dV (x:=a.id) (p:=a.p) (fun y hy ⟨_,h2⟩=>by
    obtain⟨i,o,hi,ho,_,_,h3,_⟩:=ih.only y hy;have h4:=ko hok.own hi ho haj;rw [<- h3,h2] at h4;rw [jf] at h4;cases h4)
   rw [show iB s.1 (mV t a)=_ from ea];refine⟨ih.dV,?_,?_,?_,?_⟩
   ·intro z hz;rcases (gY _ _ _ _).1 hz with rfl|h1
    ·exact⟨j,a,by omega,haj,hm,rfl,rfl,rfl,rfl⟩
    ·obtain⟨i,o,hi,h2⟩:=ih.only z h1;exact⟨i,o,by omega,h2⟩
   ·show (fC s.1.ent _ _).length=_;rw [Ia,ih.len,htk,if_pos hm]
   ·show (if u=aj then s.2++[BP f (mV t a)] else s.2).length=oo.length+((fC s.1.ent _ _).filter _).length;rw [zq];cases u with
    | false=>simp [ih.out]
    | true=>simp [ih.out]; omega
   ·intro hf z hz;rcases (gY _ _ _ _).1 hz with rfl|h1
    ·cases hu2:u with
     | false=>rfl
     | true=>exact absurd hf (hu hu2)
    ·exact ih.up hf z h1
  ·rw [if_pos (by simpa using hm)];refine⟨ih.dV,?_,?_,ih.out,ih.up⟩
   ·intro z hz;obtain⟨i,o,hi,h2⟩:=ih.only z hz;exact⟨i,o,by omega,h2⟩
   ·rw [ih.len,htk,if_neg hm]; rfl
structure Late (q:Nat->List C5) (P:List C5) (t:fB) (f:Int) (m:Nat) (b c:Br):Prop where
 dV:nR b f P
 nice:Ze (fD b f t P).1
 tight:jS (fD b f t P).1
 brD:nP (fD b f t P).1.ent t=(fD b f t P).1.ent
 abN:(fD b f t P).1.ent.length=nO q P m
 brC:nP c.ent t=c.ent
 abO:c.ent.length=nO q P m
 find:∀ e∈(fD b f t P).1.ent,e.from_=-1/\∃ o,ru c.ent t e.sub=ak o/\o.from_=-1/\o.p=e.p
 out:(fD b f t P).2.length=(gJ [1,2] f 1 t (0,0) P).length+((fD b f t P).1.ent.filter fun e=>e.up).length
 up:f=-1->(fD b f t P).1.ent.filter (fun e=>e.up)=[]
theorem O8 {i j:Nat} {b:Br} (h:KI i b) (hij:i<=j):KI j b:=by
 induction hij with
 | refl=>exact h
 | step _ ih=>exact ih.more
theorem Rx {q:Nat->List C5} {P:List C5} {t:fB} {f:Int} {m:Nat} {b c:Br} (hb:LB q P m b) (hc:LC q P t f m c) (hm:m<=8) (hf:jR [1,2] f=aj) (hp:dW P) (hr:Wr.iG P=aj):Late q P t f m b c:=by
 have kb:KI 12 b:=O8 hb.ki (by omega);have ao:nR b f P:=KI.SG kb (p:=P) hp (by rw [hb.near]; exact hf) hr;have hL:eO b ⟨t,P,f⟩=({ b with seen:=fC b.seen (fU b.seen t) t,dV:=fC b.dV (fU (b.dV.map Ad.id) t) ⟨t,P,f⟩ },aj):=nM (by rw [hb.seen]; simp);have hlo:jE (eO b ⟨t,P,f⟩).1:=oF kb.ok ⟨t,P,f⟩ ao.co ao.rp;have hA:fD b f t P=dU (eO b ⟨t,P,f⟩).1.own (iV f t P) ((eO b ⟨t,P,f⟩).1,gJ b.near f 1 t (0,0) P) (eO b ⟨t,P,f⟩).1.own.length:=by
  unfold fD;rw [if_neg (by rw [hL]; simp)]
 have Zf:(eO b ⟨t,P,f⟩).1.dV=[⟨t,P,f⟩]:=by rw [hL]; show fC b.dV _ _=_; rw [hb.dV]; rfl
 have Tc:(eO b ⟨t,P,f⟩).1.ent=[]:=by rw [hL]; exact hb.ent
 have O9:(eO b ⟨t,P,f⟩).1.own=b.own:=by rw [hL]
 have ld:=Ie hlo (by rw [Tc]; simp) (by rw [O9]; exact kb.po) Zf Tc (gJ b.near f 1 t (0,0) P) _ (aF _);rw [<- hA] at ld;have nc:=O7 ao t;have tb:jS b:=by
  intro _ _ _ e he;rw [hb.ent] at he;cases he
 have rc:iX c.ent:=hc.ki.ok.ent;refine⟨ao,nc,Kj kb.ok tb f t P ao.co hr,?_,?_,?_,hc.len,?_,?_,?_⟩
 ·rw [pG nc.ok.ent];exact aG.2 fun e he=>by
   obtain⟨_,_,_,_,_,h,_⟩:=ld.only e he;simpa using h
 ·rw [ld.len,aK,O9]; exact hb.cnt
 ·rw [pG rc];exact aG.2 fun e he=>by
   obtain⟨_,_,h,_⟩:=hc.only e he;simpa using h
 ·intro e he;obtain⟨_,o,_,ho,hmt,_,h1,h2,h3⟩:=ld.only e he;refine⟨h3,?_⟩;rw [O9] at ho;obtain⟨i,hi,rfl⟩:=hb.own o (X ho);obtain⟨z,hz,z1,z2,z3,z4⟩:=hc.all i hi hmt;refine⟨z,?_,z4,z3.trans h2.symm⟩;have h5:=(J8 rc hz).1;rw [z1,z2] at h5;rw [h1];exact h5
 ·rw [ld.out,hb.near]
 ·intro h;exact List.filter_eq_nil_iff.2 fun e he=>by rw [ld.up h e he]; simp
abbrev N7:Br:=⟨0,[1,2],[],[],[],[⟨(4,0),[]⟩]⟩
abbrev Fu:Br:=⟨0,[1,2],[⟨(3,0),[],1⟩],[(3,0)],[⟨(3,0),(4,0),[],-1,aj⟩],[⟨(4,0),[]⟩]⟩
abbrev VY:Br:=⟨0,[1,2],[],[(3,0)],[],[⟨(4,0),[]⟩]⟩
theorem Pb:fD N7 1 (3,0) []=(Fu,[⟨2,1,(3,0),(0,0),[]⟩,⟨1,3,(3,0),(4,0),[]⟩]):=rfl
theorem Pf:fD Fu 2 (3,0) []=(Fu,[]):=rfl
theorem Wt:vY Fu 1 (3,0)=(VY,[⟨2,2,(3,0),(0,0),[]⟩]):=rfl
theorem Pg {α β:Type} {R:α->β->Prop} {l:List α} {x y:β} (h:eZ R l [x,y]):∃ a b,l=[a,b]/\R a x/\R b y:=by
 match l,h with
 | [a,b],.cons q0 (.cons q1 .nil)=>exact⟨a,b,rfl,q0,q1⟩
theorem Ph {α β:Type} {R:α->β->Prop} {l:List α} {x:β} (h:eZ R l [x]):∃ a,l=[a]/\R a x:=by
 match l,h with
 | [a],.cons q0 .nil=>exact⟨a,rfl,q0⟩
theorem rR:dW []:=⟨[],⟨ah,by simp,by simp,by simp⟩,rfl⟩
theorem Pj:jE N7:=⟨by decide,ah,ah,ah,List.pairwise_singleton _ _,by simp,by simp,by intro o ho; rw [Y.1 ho]; rfl⟩
theorem Pk:jE Fu:=by
 have h:=Oa Pj 1 (3,0) [] (by decide) rfl;rw [Pb] at h;exact h
theorem Pm:qh Fu.dV:=Pk.dV
theorem Ry:nR N7 1 []:=⟨⟨by simp,by simp,by simp,by simp,by simp⟩,⟨by simp,by simp,by simp⟩,Pj,by simp,by simp,by simp,by simp,by intro o ho; rw [Y.1 ho]; exact rR,rR,by decide,rfl⟩
theorem zY:nR Fu 2 []:=⟨⟨by simp,by simp,by simp,by simp,by simp⟩,⟨by simp,by simp,by simp⟩,Pk,by simp,by simp,by simp,by intro o ho; rw [Y.1 ho]; exact rR,by intro o ho; rw [Y.1 ho]; exact rR,rR,by decide,rfl⟩
theorem zu (w:World):Calls ay 3 #[] w fun e w'=>e=.returned (aL aj)/\Below w.heap.size w w':=by
 have n0:=gM w (Z #[K O 1,K O 2] 3);have hl:=kK Nm.Qh w [1,2] 2 rfl (by simp) #[K O 1,K O 2] rfl;have NW:=D (Bq 0 (ak ⟨w.heap.size,0,U⟩,2,2) [1,2] _ (Row.dG hl) (by decide));have jU:=D (n0);clear n0 hl;go_enter Tryz.func3,Tryz.ntmps3;go_wp2_with fail;refine NW.out.mono ?_;rintro e1 w1 ⟨⟨l',⟨m1,m2,m3⟩,rfl,h1,h2,h3,h4⟩,hb⟩;have e1:l'=[1,2]:=sJ h3 (by decide) (fun y=>(h4 y).trans (by simp));subst e1;clear NW h3 h4;have Rz:=D (jU.out.trans (hb.mono jU.out.size));clear jU;have GAX:=D (show w.heap.size<w1.heap.size+1 from by have h:=Rz.out.size; omega);have BN:=D (show mQ w1 (R7 0 [1,2]) (m1,m2,m3) (U,0,0) (U,0,0) (U,0,0) (U,0,0) from ⟨h1,h2⟩);clear h1 h2 hb;go_upto_region 2 with fail;have NN:=gM w1 (Z #[K O 0,J m1 m2 m3,J U 0 0,J U 0 0,J U 0 0,J U 0 0] 28);have FV:=D (Rz.out.trans (NN.mono Rz.out.size));have Zg:=D (BN.out.on NN);clear Rz BN;have Zh:=D (dL w1 #[K O 0,J m1 m2 m3,J U 0 0,J U 0 0,J U 0 0,J U 0 0] 28);clear NN;generalize w1.alloc (Z #[K O 0,J m1 m2 m3,J U 0 0,J U 0 0,J U 0 0,J U 0 0] 28)=w2 at *;generalize w1.heap.size=bA at *;have hl:=kK okW w2 [((4,0,(U,0,0)):nS)] 1 rfl (by simp) #[K O 4,K O 0,J U 0 0] rfl;have NN:=gM w2 (Z #[K O 4,K O 0,J U 0 0] 34);have pW:=D (FV.out.trans (NN.mono FV.out.size));have Zi:=D (Zg.out.on NN);have FX:=D (Zh.out.on NN);clear FV Zg Zh;have c5:=FX.out.cell 5;have f5:=FX.out.fr 5;have lt1:=FX.out.lt;simp only [List.getElem?_toArray,List.getElem?_cons_zero,List.getElem?_cons_succ] at c5;have bs:=dM (w2.alloc (Z #[K O 4,K O 0,J U 0 0] 34)) bA 5 (J (ak ⟨w2.heap.size,0,U⟩) 1 1);have b5:=eD (k:=5) FX.out (J (ak ⟨w2.heap.size,0,U⟩) 1 1);simp only [List.setIfInBounds_toArray,List.set_cons_zero,List.set_cons_succ] at b5;have hn:=Zi.out.keep (s1:=(m1,m2,m3)) (s2:=(U,0,0)) (s3:=(U,0,0)) (s4:=(U,0,0)) (s5:=(U,0,0)) (me:=0) FX.out bs;have ho:=Row.dG (bs.own hl FX.out (by decide));have G0:=D (pW.out.setCell (p:=⟨bA,5,U⟩) (Nat.le_of_lt_succ (by have h:=GAX.out; omega)) (J (ak ⟨w2.heap.size,0,U⟩) 1 1));have G1:=D b5;have G2:=D (show mQ _ N7 (m1,m2,m3) (U,0,0) (U,0,0) (U,0,0) (ak ⟨w2.heap.size,0,U⟩,1,1) from ⟨⟨hn.br.near,hn.br.dV,hn.br.seen,hn.br.ent,⟨_,ho,.cons ⟨rfl,kJ _⟩ .nil⟩⟩,hn.no⟩);clear NN hl bs b5 hn ho pW FX Zi;go_upto_region 3 with fail;clear c5 f5 lt1;generalize (w2.alloc (Z #[K O 4,K O 0,J U 0 0] 34)).setCell ⟨bA,5,U⟩ (J (ak ⟨w2.heap.size,0,U⟩) 1 1)=w3 at *;generalize w2.heap.size=bO at *;have lJ:=D (G0.out);have Wu:=D (G1.out);have FY:=D (G2.out);clear G0 G1 G2;obtain⟨x0,x1,x2,x3,x4,x5⟩:=Wu.out.gP;go_wp2_with fail;refine (pK N7 m1 m2 m3 U 0 0 U 0 0 U 0 0 (ak ⟨bO,0,U⟩) 1 1 1 3 0 U 0 0 [] w3 FY.out (kJ _) Ry).mono ?_;rw [Pb];rintro e_ w4_ ⟨⟨⟨n1,n2,n3⟩,⟨n4,n5,n6⟩,⟨n7,n8,n9⟩,⟨n10,n11,n12⟩,⟨n13,n14,n15⟩,⟨o1,o2,o3⟩,aeS,rfl,hbn,_,hou⟩,hb⟩;clear x0 x1 x2 x3 x4 x5;have FZ:=D (lJ.out.trans (hb.mono lJ.out.size));have Zj:=D (Wu.out.on hb);have zW:=D (FY.out.on hb);clear lJ Wu FY;have BM:=D hbn;have OA:=D hou;clear hbn hou hb;go_upto_region 4 with fail;have NN:=gM w4_ (Z #[K O 0,J n1 n2 n3,J n4 n5 n6,J n7 n8 n9,J n10 n11 n12,J n13 n14 n15] 28);have zw:=D (FZ.out.trans (NN.mono FZ.out.size));have Td:=D (Zj.out.on NN);have Dh:=D (zW.out.on NN);have Pn:=D (BM.out.on NN);have Te:=D (OA.out.on NN);clear FZ Zj zW BM OA;have Po:=D (dL w4_ #[K O 0,J n1 n2 n3,J n4 n5 n6,J n7 n8 n9,J n10 n11 n12,J n13 n14 n15] 28);clear NN;generalize w4_.alloc (Z #[K O 0,J n1 n2 n3,J n4 n5 n6,J n7 n8 n9,J n10 n11 n12,J n13 n14 n15] 28)=w4 at *;generalize w4_.heap.size=bX2 at *;obtain⟨x0,x1,x2,x3,x4,x5⟩:=Po.out.gP;go_wp2_with fail;refine (pK Fu n1 n2 n3 n4 n5 n6 n7 n8 n9 n10 n11 n12 n13 n14 n15 2 3 0 U 0 0 [] w4 Pn.out (kJ _) zY).mono ?_;rw [Pf];rintro e_ w5_ ⟨⟨⟨k1,k2,k3⟩,⟨k4,k5,k6⟩,⟨k7,k8,k9⟩,⟨k10,k11,k12⟩,⟨k13,k14,k15⟩,⟨p1,p2,p3⟩,abP,rfl,hbn,_,hou⟩,hb⟩;clear x0 x1 x2 x3 x4 x5;have Pp:=D (zw.out.trans (hb.mono zw.out.size));have Tf:=D (Td.out.on hb);have Df:=D (Dh.out.on hb);have Tg:=D (Pn.out.on hb);have Ti:=D (Te.out.on hb);have Tj:=D (Po.out.on hb);clear zw Td Dh Pn Te Po;have BK:=D hbn;have OB:=D hou;clear hbn hou hb;go_upto_region 5 with fail;have NN:=gM w5_ (Z #[K O 0,J k1 k2 k3,J k4 k5 k6,J k7 k8 k9,J k10 k11 k12,J k13 k14 k15] 28);have Pq:=D (Pp.out.trans (NN.mono Pp.out.size));have Tk:=D (Tf.out.on NN);have Tm:=D (Df.out.on NN);have Pt:=D (Tg.out.on NN);have Tn:=D (Ti.out.on NN);have Pv:=D (Tj.out.on NN);have Tp:=D (BK.out.on NN);have Tq:=D (OB.out.on NN);clear Pp Tf Df Tg Ti Tj BK OB;have Tt:=D (dL w5_ #[K O 0,J k1 k2 k3,J k4 k5 k6,J k7 k8 k9,J k10 k11 k12,J k13 k14 k15] 28);clear NN;generalize w5_.alloc (Z #[K O 0,J k1 k2 k3,J k4 k5 k6,J k7 k8 k9,J k10 k11 k12,J k13 k14 k15] 28)=w5 at *;generalize w5_.heap.size=bX3 at *;obtain⟨x0,x1,x2,x3,x4,x5⟩:=Pv.out.gP;go_wp2_with fail;refine (Od Fu n1 n2 n3 n4 n5 n6 n7 n8 n9 n10 n11 n12 n13 n14 n15 1 3 0 w5 Pt.out zY.few zY.pX Pm).mono ?_;rw [Wt];rintro e_ w6_ ⟨⟨⟨j1,j2,j3⟩,⟨j4,j5,j6⟩,⟨j7,j8,j9⟩,⟨j10,j11,j12⟩,⟨j13,j14,j15⟩,⟨q1,q2,q3⟩,aeT,rfl,hbn,_,hou⟩,hb⟩;clear x0 x1 x2 x3 x4 x5;have rQ:=D (Pq.out.trans (hb.mono Pq.out.size));have Tv:=D (Tk.out.on hb);have Tw:=D (Tm.out.on hb);have Tx:=D (Pt.out.on hb);have Tz:=D (Tn.out.on hb);have TD:=D (Pv.out.on hb);have TF:=D (Tp.out.on hb);have TI:=D (Tq.out.on hb);have TJ:=D (Tt.out.on hb);clear Pq Tk Tm Pt Tn Pv Tp Tq Tt;have BJ:=D hbn;have OC:=D hou;clear hbn hou hb;go_upto_region 6 with fail;have NN:=gM w6_ (Z #[K O 0,J j1 j2 j3,J j4 j5 j6,J j7 j8 j9,J j10 j11 j12,J j13 j14 j15] 28);have H9:=D (rQ.out.trans (NN.mono rQ.out.size));have acT:=D (Tv.out.on NN);have acU:=D (Tw.out.on NN);have acV:=D (Tx.out.on NN);have TL:=D (Tz.out.on NN);have acW:=D (TD.out.on NN);have acX:=D (TF.out.on NN);have TM:=D (TI.out.on NN);have acY:=D (TJ.out.on NN);have acZ:=D (BJ.out.on NN);have TN:=D (OC.out.on NN);clear rQ Tv Tw Tx Tz TD TF TI TJ BJ OC;have ac0:=D (dL w6_ #[K O 0,J j1 j2 j3,J j4 j5 j6,J j7 j8 j9,J j10 j11 j12,J j13 j14 j15] 28);clear NN;generalize w6_.alloc (Z #[K O 0,J j1 j2 j3,J j4 j5 j6,J j7 j8 j9,J j10 j11 j12,J j13 j14 j15] 28)=w6 at *;generalize w6_.heap.size=bX4 at *;obtain⟨a0,a1,rfl,ha0,ha1⟩:=Pg TL.out.all;obtain⟨c0,rfl,hc0⟩:=Ph TN.out.all;have LB:abP=[]:=by
  have h:=TM.out.len;exact List.eq_nil_of_length_eq_zero h
 subst LB;have ro:=Row.dG TL.out.row;have no:=jT ro;obtain rfl:o2=2:=no.symm;have rp:=Row.dG TM.out.row;have np:=jT rp;obtain rfl:p2=0:=np.symm;have rq:=Row.dG TN.out.row;have nq:=jT rq;obtain rfl:q2=1:=nq.symm;obtain⟨pa0,Zk,Zl⟩:=elU (k:=0) ro rfl rfl rfl;obtain⟨da0,ea0,_,_,_,_,_,_⟩:=Zl w6 (Below.refl _ _);rw [ha0.1] at da0;rw [ha0.2.1] at ea0
 replace Zk:∀ w,(Instr.indexAt 35 (J o1 2 o3) (K O 0)).run ay w=.ok (aA (ak pa0)) w:=Zk
 obtain⟨pa1,Zm,Zn⟩:=elU (k:=1) ro rfl rfl rfl;obtain⟨da1,ea1,_,_,_,_,_,_⟩:=Zn w6 (Below.refl _ _);rw [ha1.1] at da1;rw [ha1.2.1] at ea1
 replace Zm:∀ w,(Instr.indexAt 35 (J o1 2 o3) (K O 1)).run ay w=.ok (aA (ak pa1)) w:=Zm
 obtain⟨pc0,Zo,Zp⟩:=elU (k:=0) rq rfl rfl rfl;obtain⟨dc0,ec0,_,_,_,_,_,_⟩:=Zp w6 (Below.refl _ _);rw [hc0.1] at dc0;rw [hc0.2.1] at ec0
 replace Zo:∀ w,(Instr.indexAt 35 (J q1 1 q3) (K O 0)).run ay w=.ok (aA (ak pc0)) w:=Zo
 simp only at da0 ea0 da1 ea1 dc0 ec0;clear no np nq Zl Zn Zp ro rp rq ha0 ha1 hc0;go_wp2;go_ret;exact⟨rfl,H9.out⟩
abbrev JM (l:List En) (k:Nat):Nat:=((l.take k).filter fun e=>e.up).length
theorem Pw {l:List En} {k:Nat} {e:En} (h:l[k]?=ak e):JM l (k+1)=JM l k+(if e.up=aj then 1 else 0):=by
 unfold JM;rw [aJ,h,V,Q];simp only [aH];cases h2:e.up <;> simp [h2]
theorem Px (l:List En) (k:Nat):JM l k<=l.length:=aB (List.length_filter_le _ _) (by rw [List.length_take]; omega)
theorem F6 (l:List Int) (f k k2:Int) (t t2 x x2:fB) (p p2:List C5):(gJ l f k t x p).length=(gJ l f k2 t2 x2 p2).length:=by
 unfold gJ;rw [aM,aM]
noncomputable def F7:Code:=DT 9 (Tryz.f6.body.getD .skip)
theorem Wv (w W:World) (q:Nat->List C5) (P:List C5) (lo:Bool) (f:Int) (m:Nat) (b c:Br) (bT bB bC bD:Nat) (s1:Option aI) (s2 s3:Nat) (s4:Option aI) (s5 s6:Nat) (s7:Option aI) (s8 s9:Nat) (s10:Option aI) (s11 s12:Nat) (s13:Option aI) (s14 s15:Nat) (m1:Option aI) (m2 m3:Nat) (m4:Option aI) (m5 m6:Nat) (m7:Option aI) (m8 m9:Nat) (m10:Option aI) (m11 m12:Nat) (m13:Option aI) (m14 m15:Nat) (n1:Option aI) (n2 n3:Nat) (n4:Option aI) (n5 n6:Nat) (n7:Option aI) (n8 n9:Nat) (n10:Option aI) (n11 n12:Nat) (n13:Option aI) (n14 n15:Nat) (o1:Option aI) (o2 o3:Nat) (gb:Below w.heap.size w W) (xt:dI W bT #[K O 20,K O 0] 31) (xb:dI W bB #[K O 0,J s1 s2 s3,J s4 s5 s6,J s7 s8 s9,J s10 s11 s12,J s13 s14 s15] 28) (xc:dI W bC #[K O 0,J m1 m2 m3,J m4 m5 m6,J m7 m8 m9,J m10 m11 m12,J m13 m14 m15] 28) (xd:dI W bD #[K O 0,J n1 n2 n3,J n4 n5 n6,J n7 n8 n9,J n10 n11 n12,J n13 n14 n15] 28) (bn:mQ W b (s1,s2,s3) (s4,s5,s6) (s7,s8,s9) (s10,s11,s12) (s13,s14,s15)) (cn:mQ W c (m1,m2,m3) (m4,m5,m6) (m7,m8,m9) (m10,m11,m12) (m13,m14,m15)) (dn:mQ W (fD b f (20,0) P).1 (n1,n2,n3) (n4,n5,n6) (n7,n8,n9) (n10,n11,n12) (n13,n14,n15)) (ou:iZ W (o1,o2,o3) (fD b f (20,0) P).2) (lt:Late q P (20,0) f m b c) (kc:KI 12 c) (hn:b.near=[1,2]) (hme:b.me=0) (hlo:lo=aj->f=-1) (hm:m<=8) (u0 u1 u3 u4 u5 u6 u11 u13 u14 u17 u18 u19 u20 u21 u22 u23 u24 u25 u26 u27 u28 u29 u30 u31 u32 u33 u34 u35 u36 u37 u38 u39 u40 u41 u42 u43 u44 u45 u46 u47 u48 u49 u50 u51 u52 u53 u54 u55 u56 u57 u58 u59 u60 u61 u62 u63 u64 u65 u66 u67 u68 u69 u70 u71 u72 u73 u74 u75 u76 u77 u78 u79 u80 u81 u82 u83 u84 u85 u86 u87 u88 u89 u90 u91 u92 u93 u94 u95 u96 u97 u98 u99 u100 u101 u102 u103 u104 u105 u106 u107 u108 u109 u110 u111 u112 u113 u114 u115 u116 u117 u118 u119 u120 u121 u122 u123 u124 u125 u126 u127 u128 u129 u130 u131 u132 u133 u134 u135 u136 u137 u138 u139 u140 u141 u142 u143 u144 u145 u146 u147 u148 u149 u150 u151 u152 u153 u154 u155 u156 u157 u158 u159 u160 u161 u162 u163 u164 u165 u166 u167 u168 u169 u170 u171 u172 u173:Value) :
  Code.wp ay F7 (bodyPost ay Tryz.f6 (fun e w'=>e=.returned (aL aj)/\Below w.heap.size w w')) ⟨(u0::u1::aL lo::u3::u4::u5::u6::K O f::aA (ak ⟨bT,0,U⟩)::aA (ak ⟨bB,0,U⟩)::aA (ak ⟨bC,0,U⟩)::u11::K O (nO q P m:Nat)::u13::u14::aA (ak ⟨bD,0,U⟩)::J o1 o2 o3::u17::u18::u19::u20::u21::u22::u23::u24::u25::u26::u27::u28::u29::u30::u31::u32::u33::u34::u35::u36::u37::u38::u39::u40::u41::u42::u43::u44::u45::u46::u47::u48::u49::u50::u51::u52::u53::u54::u55::u56::u57::u58::u59::u60::u61::u62::u63::u64::u65::u66::u67::u68::u69::u70::u71::u72::u73::u74::u75::u76::u77::u78::u79::u80::u81::u82::u83::u84::u85::u86::u87::u88::u89::u90::u91::u92::u93::u94::u95::u96::u97::u98::u99::u100::u101::u102::u103::u104::u105::u106::u107::u108::u109::u110::u111::u112::u113::u114::u115::u116::u117::u118::u119::u120::u121::u122::u123::u124::u125::u126::u127::u128::u129::u130::u131::u132::u133::u134::u135::u136::u137::u138::u139::u140::u141::u142::u143::u144::u145::u146::u147::u148::u149::u150::u151::u152::u153::u154::u155::u156::u157::u158::u159::u160::u161::u162::u163::u164::u165::u166::u167::u168::u169::u170::u171::u172::u173::[]).toArray,[]⟩ W:=by
 have jU:=D (gb);have Ww:=D (xt);have Zq:=D (xb);have Zr:=D (xc);have Wx:=D (xd);have Zt:=D (bn);have Zu:=D (cn);have Wy:=D (dn);have LT:=D lt;have KC:=D kc;have HN:=D hn;have Rj:=D hlo;have HM:=D hm;have HC:=D (zX q P m);have OL:=D (show o2=(fD b f (20,0) P).2.length from by
  obtain⟨l,h1,h2⟩:=ou;rw [<- h2.len]; exact (jT h1).symm)
 have DM:=D (show (fD b f (20,0) P).1.me=0 from (FU b f (20,0) P).trans hme);clear gb xt xb xc xd bn cn dn ou lt kc hn hme hlo hm;unfold F7
 conv=>arg 2; whnf
 have UT:=D LT.out.out;have LD:=D LT.out.abN;obtain⟨Xg,Xh,Xi,Xj,Xk,Xl⟩:=Wx.out.gP;obtain⟨Wz,WA⟩:=Ww.out.cs2;obtain⟨lc,hc1,hc2⟩:=Wy.out.br.ent;go_wp2_with fail;refine (vU 0 _ _ _ _ (n10,n11,n12) lc (fD b f (20,0) P).1.ent (20,0) W hc1 hc2 LT.out.nice.ok.ent (by rw [hc2.len]; exact LT.out.nice.few.ent) LT.out.nice.pX.ent).mono ?_;rw [LT.out.brD];rintro e1 w1 ⟨⟨⟨g1,g2,g3⟩,lu,rfl,hr,ha⟩,hb⟩;clear Xg Xh Xi Xj Xk Xl Wz WA;have FZ:=D (jU.out.trans (hb.mono jU.out.size));have Zv:=D (Ww.out.on hb);have F8:=D (Zq.out.on hb);have Zw:=D (Zr.out.on hb);have Zx:=D (Wx.out.on hb);have zW:=D (Zt.out.on hb);have Zy:=D (Zu.out.on hb);have Zz:=D (Wy.out.on hb);clear jU Ww Zq Zr Wx Zt Zu Wy;clear hb;have hsl:=jT hr;have GL:=D (show (fD b f (20,0) P).1.ent.length=g2 from by rw [<- ha.len]; exact hsl);have SL:=D hsl;have TP:=D (hr);have TQ:=D (ha);clear hr ha hsl hc1 hc2;have G8:=D (show g2<=8 from by have h1:=GL.out; have h2:=LD.out; have h3:=HC.out; have h4:=HM.out; omega);go_wp2_with fail
 go_loopw [17,95] (fun u i wr=>∃ k:Nat,k<=g2/\i=K O k/\u=K O (JM (fD b f (20,0) P).1.ent k:Nat)/\Below w1.heap.size w1 wr) (fun _ i _=>g2-(intOf i).toNat)
 case atStart=>exact⟨0,Nat.zero_le _,rfl,rfl,Below.refl _ _⟩
 case round =>
  obtain⟨k,hk,rfl,rfl,hbe⟩:=hrel;have jd:=D (FZ.out.trans (hbe.mono FZ.out.size));have Ig:=D (Zv.out.on hbe);have Di:=D (F8.out.on hbe);have Ih:=D (Zw.out.on hbe);have Ii:=D (Zx.out.on hbe);have Dj:=D (zW.out.on hbe);have Ij:=D (Zy.out.on hbe);have Ik:=D (Zz.out.on hbe);have Dk:=D (TP.out.on hbe);have Dl:=D (TQ.out.mono fun _ _ q=>q.on hbe);clear FZ Zv F8 Zw Zx zW Zy Zz TP TQ;have zx:=D (hbe);clear hbe;by_cases hlt:k<g2
  ·have hlt':(k:Int)<(g2:Int):=by omega
   have hw:IntKind.i64.wrap ((k:Int)+1)=(k:Int)+1:=IntWalk.i64_in _ (by have:=G8.out; omega);obtain⟨e,he⟩:∃ e,(fD b f (20,0) P).1.ent[k]?=ak e:=⟨_,au (by rw [GL.out]; exact hlt)⟩;have US:=D (Pw he);have UL:=D (show JM (fD b f (20,0) P).1.ent k<=8 from by have h1:=Px (fD b f (20,0) P).1.ent k; have h2:=GL.out; have h3:=G8.out; omega);obtain⟨hf1,o,ho1,ho2,ho3⟩:=LT.out.find e (X he);have FO:=D ho1;have F3:=D ho3;obtain⟨z2,hz3,Vo⟩:=(show eZ (jQ wr) lu (fD b f (20,0) P).1.ent from Dl.out).at k e he;obtain⟨y1,y2,y3,y4,⟨yo,yn,yc⟩,y6,y7⟩:=z2;obtain⟨p,ix,px⟩:=KA Dk.out rfl SL.out hz3;obtain⟨p0,p1,p2,p3,p4,p5,p6⟩:=px wr (Below.refl _ _);simp only at p0 p1 p2 p3 p4 p5 p6;have HS:=D (show e.sub=(y3,y4) from Vo.2.1.symm);have HU:=D (show e.up=y7 from Vo.2.2.2.1.symm);obtain rfl:y6=-1:=Vo.2.2.1.trans hf1;have TR:=D ((show eY wr (J yo yn yc) e.p from Vo.2.2.2.2));have PB:=D (show e.p.length<=1000000 from aB (LT.out.nice.pX.ent e (X he)) (by decide));clear px hz3 Vo hf1 ho1 ho3;go_upto_region 21 with fail;clear p0 p1 p2 p3 p4 p5 p6 ix;have NN:=gM wr (Z #[K O y1,K O y2,K O y3,K O y4,J yo yn yc,K O (-1),aL y7] 66);have xC:=D (jd.out.trans (NN.mono jd.out.size));have xD:=D (Ig.out.on NN);have Dm:=D (Di.out.on NN);have xE:=D (Ih.out.on NN);have Dn:=D (Ii.out.on NN);have Dp:=D (Dj.out.on NN);have xG:=D (Ij.out.on NN);have Dq:=D (Ik.out.on NN);have Dr:=D (Dk.out.on NN);have Dt:=D (Dl.out.mono fun _ _ q=>q.on NN);have xH:=D (zx.out.trans (NN.mono zx.out.size));have TS:=D (TR.out.on NN);clear jd Ig Di Ih Ii Dj Ij Ik Dk Dl zx TR;have Py:=D (dL wr #[K O y1,K O y2,K O y3,K O y4,J yo yn yc,K O (-1),aL y7] 66);clear NN;generalize wr.alloc (Z #[K O y1,K O y2,K O y3,K O y4,J yo yn yc,K O (-1),aL y7] 66)=wa at *;generalize wr.heap.size=bE at *;obtain⟨xe0,xe1,xe2,xe3,xe4,xe5,xe6⟩:=Py.out.mE;obtain⟨Wz,WA⟩:=xD.out.cs2;obtain⟨xc0,ZA,ZC,ZE,ZF,ZG⟩:=xE.out.gP;obtain⟨lc,hc1,hc2⟩:=xG.out.br.ent;go_wp2_with fail;refine (J7 0 _ _ _ _ (m10,m11,m12) lc c.ent (20,0) (y3,y4) wa hc1 hc2 KC.out.ok.ent (by rw [hc2.len]; exact aB KC.out.few.ent (by decide)) KC.out.pX.ent).mono ?_;rw [show ru c.ent (20,0) (y3,y4)=ak o from by rw [<- HS.out]; exact FO.out];rintro e9 wb ⟨⟨⟨q1,q2,q3,q4,⟨q5,q6,q7⟩,q8,q9⟩,rfl,hr9⟩,hb⟩;clear xe0 xe1 xe2 xe3 xe4 xe5 xe6 Wz WA xc0 ZA ZC ZE ZF ZG;have lM:=D (xC.out.trans (hb.mono xC.out.size));have tZ:=D (xD.out.on hb);have uf:=D (Dm.out.on hb);have ug:=D (xE.out.on hb);have uh:=D (Dn.out.on hb);have uj:=D (Dp.out.on hb);have l6:=D (xG.out.on hb);have um:=D (Dq.out.on hb);have uo:=D (Dr.out.on hb);have uq:=D (Dt.out.mono fun _ _ q=>q.on hb);have oM:=D (xH.out.trans (hb.mono xH.out.size));have TU:=D (TS.out.on hb);have TV:=D (Py.out.on hb);clear xC xD Dm xE Dn Dp xG Dq Dr Dt xH TS Py;clear hb;obtain rfl:q8=-1:=hr9.2.2.1.trans ho2;have TW:=D ((show eY wb (J q5 q6 q7) e.p from by rw [<- F3.out]; exact hr9.2.2.2.2));clear hr9 hc1 hc2 ho2;go_upto_region 22 with fail;have NN:=gM wb (Z #[K O q1,K O q2,K O q3,K O q4,J q5 q6 q7,K O (-1),aL q9] 66);have kW:=D (lM.out.trans (NN.mono lM.out.size));have TY:=D (tZ.out.on NN);have T9:=D (uf.out.on NN);have Ua:=D (ug.out.on NN);have Ub:=D (uh.out.on NN);have Du:=D (uj.out.on NN);have Dc:=D (l6.out.on NN);have Uc:=D (um.out.on NN);have Ud:=D (uo.out.on NN);have Ue:=D (uq.out.mono fun _ _ q=>q.on NN);have Pz:=D (oM.out.trans (NN.mono oM.out.size));have PD:=D (TU.out.on NN);have xq:=D (TV.out.on NN);have PG:=D (TW.out.on NN);clear lM tZ uf ug uh uj l6 um uo uq oM TU TV TW;have PI:=D (dL wb #[K O q1,K O q2,K O q3,K O q4,J q5 q6 q7,K O (-1),aL q9] 66);clear NN;generalize wb.alloc (Z #[K O q1,K O q2,K O q3,K O q4,J q5 q6 q7,K O (-1),aL q9] 66)=wc at *;generalize wb.heap.size=bQ at *;obtain⟨xe0,xe1,xe2,xe3,xe4,xe5,xe6⟩:=xq.out.mE;obtain⟨xq0,xq1,xq2,xq3,xq4,xq5,xq6⟩:=PI.out.mE;go_wp2_with fail;refine (Jo _ _ e.p e.p wc PG.out PD.out PB.out PB.out).mono ?_;rw [show jJ e.p e.p=aj from (yB e.p e.p).2 rfl];rintro e10 wd ⟨rfl,hb⟩;clear xe0 xe1 xe2 xe3 xe4 xe5 xe6 xq0 xq1 xq2 xq3 xq4 xq5 xq6;have qj:=D (kW.out.trans (hb.mono kW.out.size));have PN:=D (TY.out.on hb);have ac7:=D (T9.out.on hb);have ac8:=D (Ua.out.on hb);have ac9:=D (Ub.out.on hb);have ada:=D (Du.out.on hb);have adb:=D (Dc.out.on hb);have ade:=D (Uc.out.on hb);have adf:=D (Ud.out.on hb);have adg:=D (Ue.out.mono fun _ _ q=>q.on hb);have Uf:=D (Pz.out.trans (hb.mono Pz.out.size));have adh:=D (PD.out.on hb);have ZH:=D (xq.out.on hb);have adi:=D (PG.out.on hb);have adj:=D (PI.out.on hb);clear kW TY T9 Ua Ub Du Dc Uc Ud Ue Pz PD xq PG PI;clear hb;obtain⟨xe0,xe1,xe2,xe3,xe4,xe5,xe6⟩:=ZH.out.mE;cases y7
   ·go_wp2_with fail
    go_roundw
    case rel=>exact⟨k+1,hlt,by go_num,by rw [US.out,HU.out]; simp,Uf.out⟩
    case measure=>simp [intOf]; omega
   ·have hw2:IntKind.i64.wrap ((JM (fD b f (20,0) P).1.ent k:Nat)+1:Int)=((JM (fD b f (20,0) P).1.ent k:Nat):Int)+1:=IntWalk.i64_in _ (by have:=UL.out; omega);go_wp2_with fail
    go_roundw
    case rel=>exact⟨k+1,hlt,by go_num,by rw [US.out,HU.out]; simp,Uf.out⟩
    case measure=>simp [intOf]; omega
  ·obtain rfl:k=g2:=by omega
   have UQ:=D (show JM (fD b f (20,0) P).1.ent k=((fD b f (20,0) P).1.ent.filter fun e=>e.up).length from by unfold JM; rw [<- GL.out,aK]);have UL:=D (show JM (fD b f (20,0) P).1.ent k<=8 from by have h1:=Px (fD b f (20,0) P).1.ent k; have h2:=GL.out; have h3:=G8.out; omega);generalize JM (fD b f (20,0) P).1.ent k=nu at *;obtain⟨xb0,xb1,xb2,xb3,xb4,xb5⟩:=Di.out.gP;have OT:=D (sW 0 f 0 0 0 0 0 (s1,s2,s3) (J s4 s5 s6) (J s7 s8 s9) (J s10 s11 s12) (J s13 s14 s15) (U,0,0) [] [1,2] wr (by rw [<- HN.out]; exact Dj.out.br.near) (by decide) (kJ _) (by decide));go_wp2_with fail;refine OT.out.mono ?_;rintro e11 x1 ⟨⟨⟨r1,r2,r3⟩,lx,rfl,hou⟩,hb⟩;clear xb0 xb1 xb2 xb3 xb4 xb5;have tT:=D (jd.out.trans (hb.mono jd.out.size));have PS:=D (Ig.out.on hb);have Ug:=D (Di.out.on hb);have PU:=D (Ih.out.on hb);have PV:=D (Ii.out.on hb);have Uh:=D (Dj.out.on hb);have Da:=D (Ij.out.on hb);have PW:=D (Ik.out.on hb);have Ui:=D (Dk.out.on hb);have Uj:=D (Dl.out.mono fun _ _ q=>q.on hb);have PY:=D (zx.out.trans (hb.mono zx.out.size));clear jd Ig Di Ih Ii Dj Ij Ik Dk Dl zx;have RL:=D (show r2=(gJ [1,2] f 1 (20,0) (0,0) P).length from by
    have h1:lx.length=r2:=jT (Row.dG hou.row);rw [<- h1,hou.all.len];exact F6 _ _ _ _ _ _ _ _ _ _)
   have R3:=D (show r2<=2 from by rw [RL.out]; exact sV _ _ _ _ _ _);clear OT hou hb;obtain⟨Xg,Xh,Xi,Xj,Xk,Xl⟩:=PV.out.gP;obtain⟨Wz,WA⟩:=PS.out.cs2;obtain⟨xc0,ZA,ZC,ZE,ZF,ZG⟩:=PU.out.gP;obtain⟨lc,hc1,hc2⟩:=PW.out.br.ent;go_wp2_with fail;refine (vU 0 _ _ _ _ (n10,n11,n12) lc (fD b f (20,0) P).1.ent (20,0) x1 hc1 hc2 LT.out.nice.ok.ent (by rw [hc2.len]; exact LT.out.nice.few.ent) LT.out.nice.pX.ent).mono ?_;rw [LT.out.brD];rintro e12 x2 ⟨⟨⟨j1,j2,j3⟩,lj,rfl,hr,ha⟩,hb⟩;clear Xg Xh Xi Xj Xk Xl Wz WA xc0 ZA ZC ZE ZF ZG;have xC:=D (tT.out.trans (hb.mono tT.out.size));have xD:=D (PS.out.on hb);have Dm:=D (Ug.out.on hb);have xE:=D (PU.out.on hb);have Dn:=D (PV.out.on hb);have Dp:=D (Uh.out.on hb);have xG:=D (Da.out.on hb);have Dq:=D (PW.out.on hb);have Dr:=D (Ui.out.on hb);have Dt:=D (Uj.out.mono fun _ _ q=>q.on hb);have xH:=D (PY.out.trans (hb.mono PY.out.size));clear tT PS Ug PU PV Uh Da PW Ui Uj PY;clear hb;obtain rfl:j2=nO q P m:=by
    have h:=jT hr;have h3:lj.length=j2:=h;rw [<- h3,ha.len,LD.out]
   clear hr ha hc1 hc2;obtain⟨Wz,WA⟩:=xD.out.cs2;obtain⟨xc0,ZA,ZC,ZE,ZF,ZG⟩:=xE.out.gP;obtain⟨lc2,hc1,hc2⟩:=xG.out.br.ent;go_wp2_with fail;refine (vU 0 _ _ _ _ (m10,m11,m12) lc2 c.ent (20,0) x2 hc1 hc2 KC.out.ok.ent (by rw [hc2.len]; exact KC.out.few.ent) KC.out.pX.ent).mono ?_;rw [LT.out.brC];rintro e13 x3 ⟨⟨⟨l1,l2,l3⟩,ll,rfl,hr,ha⟩,hb⟩;clear Wz WA xc0 ZA ZC ZE ZF ZG;have oL:=D (xC.out.trans (hb.mono xC.out.size));have Il:=D (xD.out.on hb);have Im:=D (Dm.out.on hb);have oN:=D (xE.out.on hb);have Dv:=D (Dn.out.on hb);have Io:=D (Dp.out.on hb);have tV:=D (xG.out.on hb);have Dw:=D (Dq.out.on hb);have Ip:=D (Dr.out.on hb);have Iq:=D (Dt.out.mono fun _ _ q=>q.on hb);have zy:=D (xH.out.trans (hb.mono xH.out.size));clear xC xD Dm xE Dn Dp xG Dq Dr Dt xH;clear hb;obtain rfl:l2=nO q P m:=by
    have h:=jT hr;have h3:ll.length=l2:=h;rw [<- h3,ha.len,LT.out.abO]
   clear hr ha hc1 hc2;have ho:(o2:Int)=(r2:Int)+(nu:Int):=by have h1:=OL.out; have h2:=UT.out; have h3:=RL.out; have h4:=UQ.out; omega
   have hw5:IntKind.i64.wrap ((r2:Int)+(nu:Int))=(r2:Int)+(nu:Int):=IntWalk.i64_in _ (by have h1:=R3.out; have h2:=UL.out; omega);have Z4:=Fh (fD b f (20,0) P).1 (n1,n2,n3) (n4,n5,n6) (n7,n8,n9) (n10,n11,n12) (n13,n14,n15) x3 Dw.out.br LT.out.nice.ok.ent (aB LT.out.nice.few.ent (by decide)) LT.out.nice.pe;rw [DM.out,(J2 LT.out.nice.ok.ent).2 LT.out.tight] at Z4;have Z4:=D Z4;obtain⟨Xg,Xh,Xi,Xj,Xk,Xl⟩:=Dv.out.gP;have NU0:=D (fun h:lo=aj=>show nu=0 from by rw [UQ.out,LT.out.up (Rj.out h)]; rfl);have hq:((o2:Int) == (r2:Int)+(nu:Int))=aj:=by rw [ho]; simp
   clear ho;cases lo
   ·go_wp2_with fail;refine Z4.out.mono ?_;rintro e14 x4 ⟨rfl,hb⟩;clear Xg Xh Xi Xj Xk Xl;have lM:=D (oL.out.trans (hb.mono oL.out.size));have tZ:=D (Il.out.on hb);have uf:=D (Im.out.on hb);have ug:=D (oN.out.on hb);have uh:=D (Dv.out.on hb);have uj:=D (Io.out.on hb);have l6:=D (tV.out.on hb);have um:=D (Dw.out.on hb);have uo:=D (Ip.out.on hb);have uq:=D (Iq.out.mono fun _ _ q=>q.on hb);have oM:=D (zy.out.trans (hb.mono zy.out.size));clear oL Il Im oN Dv Io tV Dw Ip Iq zy;clear hb;go_wp2_with fail;refine (zu _).mono ?_;rintro e15 x5 ⟨rfl,hb⟩;have PZ:=D (lM.out.trans (hb.mono lM.out.size));have ZJ:=D (tZ.out.on hb);have Ir:=D (uf.out.on hb);have ZK:=D (ug.out.on hb);have ZM:=D (uh.out.on hb);have ZN:=D (uj.out.on hb);have ZO:=D (l6.out.on hb);have ZR:=D (um.out.on hb);have ZT:=D (uo.out.on hb);have ZU:=D (uq.out.mono fun _ _ q=>q.on hb);have ZV:=D (oM.out.trans (hb.mono oM.out.size));clear lM tZ uf ug uh uj l6 um uo uq oM;go_wp2;go_ret;exact⟨rfl,PZ.out⟩
   ·have hnu:((nu:Int) == 0)=aj:=by rw [NU0.out rfl]; rfl
    go_wp2_with fail;refine Z4.out.mono ?_;rintro e14 x4 ⟨rfl,hb⟩;clear Xg Xh Xi Xj Xk Xl;have lM:=D (oL.out.trans (hb.mono oL.out.size));have tZ:=D (Il.out.on hb);have uf:=D (Im.out.on hb);have ug:=D (oN.out.on hb);have uh:=D (Dv.out.on hb);have uj:=D (Io.out.on hb);have l6:=D (tV.out.on hb);have um:=D (Dw.out.on hb);have uo:=D (Ip.out.on hb);have uq:=D (Iq.out.mono fun _ _ q=>q.on hb);have oM:=D (zy.out.trans (hb.mono zy.out.size));clear oL Il Im oN Dv Io tV Dw Ip Iq zy;clear hb;go_wp2_with fail;refine (zu _).mono ?_;rintro e15 x5 ⟨rfl,hb⟩;have PZ:=D (lM.out.trans (hb.mono lM.out.size));have ZJ:=D (tZ.out.on hb);have Ir:=D (uf.out.on hb);have ZK:=D (ug.out.on hb);have ZM:=D (uh.out.on hb);have ZN:=D (uj.out.on hb);have ZO:=D (l6.out.on hb);have ZR:=D (um.out.on hb);have ZT:=D (uo.out.on hb);have ZU:=D (uq.out.mono fun _ _ q=>q.on hb);have ZV:=D (oM.out.trans (hb.mono oM.out.size));clear lM tZ uf ug uh uj l6 um uo uq oM;go_wp2;go_ret;exact⟨rfl,PZ.out⟩
end Go.Proofs.YtmklifheakemeaaGreat.Fl
