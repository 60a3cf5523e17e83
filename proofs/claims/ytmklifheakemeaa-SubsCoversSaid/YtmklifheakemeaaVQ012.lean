/-
  A region that draws . Conditions as told.
-/
import Derived.Test.YtmklifheakemeaaVQ010
import Derived.Test.YtmklifheakemeaaVQ011
set_option maxRecDepth 100000
set_option maxHeartbeats 64000000
open _root_.Bool renaming true->aM
open _root_.Go renaming Value->ay,World->aD,Addr->aK,Act->aU,wpOp->aW
open Go.IntKind renaming i64->aJ
open Go.Lib renaming hid->au
open Go.Operand renaming tmp->ak
open Go.Proofs.Ytmklifheakemeaa.Rg renaming dz->aF,get_put->aH,dF->aL,fu->aN,dV->aO,fQ->aR,fH->aS,fK->aT,size_put->aV,iF->aX,kQ->aY,gQ->aZ,eH->bf,iE->bg
open Go.Region renaming binds->aC
open Go.RowKit.Below renaming refl->aj,heap_setCell->aB
open Go.Value renaming pointer->J,slice->O,int->aI
open _root_.List renaming getElem?_toArray->X,getElem?_cons_zero->Y,getElem?_cons_succ->Z,getElem?_eq_some_iff->aG,all_eq_true->aP,mem_range->aQ
open _root_.Option renaming some->U,none->ah
open _root_.Or renaming inr->aA
namespace Go.Proofs.Ytmklifheakemeaa
namespace Rg
open Go.RowKit Rw
structure JD (i N A S:Nat) (d last:Nat->Nat) (V:Nat->ay->aD->Prop) (base:aU) (o:Oper) (a:aU) (x:aD):Prop where
 kp:∀ j u,(∀ i,i<N->d i≠j)->base.tmps[j]?=U u->a.eval (ak j)=u
 at_:∀ e∈o.after,aC .any e=aM->e.on≠A->e.on≠S->(last e.on=i\/N<=last e.on)->V e.on (a.eval (ak (d e.on))) x
structure Q7 (l:List Oper) (N A S C:Nat) (d last:Nat->Nat) (V:Nat->ay->aD->Prop) (t:TypeId) (zero:Array ay) (Ef:ay->Array ay) (base:aU) (W:aD) (L:Array Bool) (a:aU) (x:aD):Prop where
 cl:∀ i o,done L i->l[i]?=U o->∀ e∈o.after,aC .any e=aM->done L e.on
 no:∀ i,N<=i->¬ done L i
 df:a.defers=base.defers
 sz:a.tmps.size=base.tmps.size
 kp:∀ j,(∀ i,i<N->d i≠j)->a.tmps[j]?=base.tmps[j]?
 oC:Below W.heap.size W x
 val:∃ vs:Nat->ay,∀ i,i<N->i≠S->done L i->a.tmps[d i]?=U (vs i)/\(i≠A->¬ done L (last i)->V i (vs i) x)
 box:done L A->¬ done L S->∃ bb,a.tmps[d A]?=U (J (U ⟨bb,0,ah⟩))/\W.heap.size<=bb/\dH x bb zero t
 fin:done L S->∃ bb v,a.tmps[d A]?=U (J (U ⟨bb,0,ah⟩))/\a.tmps[d C]?=U v/\W.heap.size<=bb/\dH x bb (Ef v) t/\V C v x
theorem lF {P:Program} {Q:Exit->aU->aD->Prop} {id:Nat} {base:aU} {W:aD} {l:List Oper} (N A S C:Nat) (d last:Nat->Nat) (V:Nat->ay->aD->Prop) (t:TypeId) (zero:Array ay) (Ef:ay->Array ay)
  (hm:P.follows .mixedOrders=aM) (hf:xA l.toArray=aM) (hN:l.length=N) (hA:A<N) (hS:S<N) (hC:C<N) (Q8:A≠S) (hCS:C≠S) (Q9:A≠C) (Mx:N<=last C)
  (hinj:∀ i j,i<N->j<N->i≠S->j≠S->d i=d j->i=j) (hs:∀ i,i<N->d i<base.tmps.size)
  (hV:∀ i v x x',i<N->V i v x->Below x.heap.size x x'->V i v x')
  (hw:∀ o,l[S]?=U o->(∃ e∈o.after,aC .any e=aM/\e.on=A)/\∃ e∈o.after,aC .any e=aM/\e.on=C)
  (hop:∀ i o,i<N->i≠A->i≠S->l[i]?=U o->∀ a x,Below W.heap.size W x->JD i N A S d last V base o a x->∀ K:aU->aD->Prop,(∀ v x',V i v x'->Below x.heap.size x x'->K (a.put (U (d i)) v) x')->wpOp P l.toArray Q i K a x)
  (Sv:∀ o,l[A]?=U o->∀ a x,∀ K:aU->aD->Prop,K (a.put (U (d A)) (J (U ⟨x.heap.size,0,ah⟩))) (x.alloc (.cells zero t))->wpOp P l.toArray Q A K a x)
  (Pg:∀ o,l[S]?=U o->∀ a x bb v (D:Nat->Prop),(∀ j oj,D j->l[j]?=U oj->∀ e∈oj.after,aC .any e=aM->D e.on)->(∀ e∈o.after,aC .any e=aM->D e.on)->Below W.heap.size W x->a.eval (ak (d A))=J (U ⟨bb,0,ah⟩)->a.eval (ak (d C))=v->V C v x->W.heap.size<=bb->dH x bb zero t->∀ K:aU->aD->Prop,(∀ x',Below W.heap.size W x'->dH x' bb (Ef v) t->(∀ j u,j<N->j≠A->j≠S->D j->¬ D (last j)->last j≠S->V j u x->V j u x')->K a x')->wpOp P l.toArray Q S K a x)
  (hend:∀ a x bb v,a.defers=base.defers->a.tmps.size=base.tmps.size->(∀ j,(∀ i,i<N->d i≠j)->a.tmps[j]?=base.tmps[j]?)->a.tmps[d A]?=U (J (U ⟨bb,0,ah⟩))->a.tmps[d C]?=U v->W.heap.size<=bb->dH x bb (Ef v) t->V C v x->Below W.heap.size W x->(∃ vs:Nat->ay,∀ i,i<N->i≠S->i≠A->a.tmps[d i]?=U (vs i)/\(N<=last i->V i (vs i) x))->Q .normal a x):(Code.region id l.toArray aM).wp P Q base W:=by
 refine jO (fun L a x=>Q7 l N A S C d last V t zero Ef base W L a x) hm hf ?_ ?_ ?_
 ·exact⟨fun i o h=>absurd h (fG _ _),fun i _=>fG _ _,rfl,rfl,fun _ _=>rfl,(aj _ _).drew,⟨fun _=>.bool aM,fun i _ _ h=>absurd h (fG _ _)⟩,fun h=>absurd h (fG _ _),fun h=>absurd h (fG _ _)⟩
 ·intro L a x i o hsz I ho hnd ji;have hi:i<l.length:=(aG.1 ho).1;have Ic:i<N:=by omega
  have qz:i<L.size:=by omega
  obtain⟨vs,hvs⟩:=I.val;have hon:∀ e∈o.after,aC .any e=aM->e.on<i:=fun e he hb=>by
   have h7:=aP.1 hf i (aQ.2 (by simpa using hi));have ho':(l.toArray)[i]?=U o:=by simpa using ho
   rw [ho'] at h7;have h8:=Array.all_eq_true'.1 h7 e he;rw [hb] at h8;simpa using h8
  have dd:∀ {k},k≠i->done (L.setIfInBounds i aM) k->done L k:=fun {k} h h5=>((eX qz k).1 h5).resolve_left h;have du:∀ {k},done L k->done (L.setIfInBounds i aM) k:=fun {k} h=>(eX qz k).2 (aA h);have cl':∀ k q,done (L.setIfInBounds i aM) k->l[k]?=U q->∀ e∈q.after,aC .any e=aM->done (L.setIfInBounds i aM) e.on:=fun k q hk hq e he hb=>by
   by_cases e2:k=i
   ·subst e2;rw [hq] at ho;cases ho;exact du (ji e he hb)
   ·exact du (I.cl k q (dd e2 hk) hq e he hb)
  have no':∀ k,N<=k->¬ done (L.setIfInBounds i aM) k:=fun k hk h=>I.no k hk (dd (by omega) h);have seen:JD i N A S d last V base o a x:=⟨fun j u hj hu=>dF (by rw [I.kp j hj]; exact hu),fun e he hb hA' hS' hl=>by
   obtain⟨h1,h2⟩:=hvs e.on (by have:=hon e he hb; omega) hS' (ji e he hb);rw [dF h1];refine h2 hA' ?_;rcases hl with hl|hl
   ·rw [hl]; exact hnd
   ·exact I.no _ hl⟩
  have MB:i≠S->∀ v x',Below x.heap.size x x'->(i≠A->V i v x')->(i=A->∃ bb,v=J (U ⟨bb,0,ah⟩)/\W.heap.size<=bb/\dH x' bb zero t)->Q7 l N A S C d last V t zero Ef base W (L.setIfInBounds i aM) (a.put (U (d i)) v) x':=by
   intro qC v x' hb hpv hpa;have self:(a.put (U (d i)) v).tmps[d i]?=U v:=by
    have h5:d i<a.tmps.size:=by rw [I.sz]; exact hs i Ic
    simp [Act.put,h5]
   have keep:∀ k,k<N->k≠S->k≠i->(a.put (U (d i)) v).tmps[d k]?=a.tmps[d k]?:=fun k hk uQ hki=>get_put _ _ _ _ (fun e=>hki (hinj _ _ hk Ic uQ qC e));refine⟨cl',no',I.df,by rw [size_put]; exact I.sz,fun j hj=>?_,I.oC.trans (hb.mono I.oC.size),⟨fun k=>if k=i then v else vs k,fun k hk uQ hdn=>?_⟩,fun h1 h2=>?_,fun h1=>?_⟩
   ·rw [get_put _ _ _ _ (fun e=>hj i Ic e.symm)];exact I.kp j hj
   ·by_cases e:k=i
    ·subst e;simp only [if_true];exact⟨self,fun h3 _=>hpv h3⟩
    ·simp only [if_neg e];obtain⟨h3,h4⟩:=hvs k hk uQ (dd e hdn);exact⟨by rw [keep k hk uQ e]; exact h3,fun h5 h6=>hV k _ _ _ hk (h4 h5 (fun h=>h6 (du h))) hb⟩
   ·by_cases e:A=i
    ·subst e;obtain⟨bb,rfl,h4,h5⟩:=hpa rfl;exact⟨bb,self,h4,h5⟩
    ·obtain⟨bb,h3,h4,h5⟩:=I.box (dd e h1) (fun h=>h2 (du h));exact⟨bb,by rw [keep A hA Q8 e]; exact h3,h4,h5.on hb⟩
   ·have h2:=dd (Ne.symm qC) h1;obtain⟨bb,u,h5,h6,h7,h8,h9⟩:=I.fin h2;obtain⟨oS,xM⟩:∃ oS,l[S]?=U oS:=⟨_,List.getElem?_eq_getElem (by omega)⟩;obtain⟨⟨ea,k1,k2,k3⟩,ec,k4,k5,k6⟩:=hw oS xM;have dA:=I.cl S oS h2 xM ea k1 k2;have dC:=I.cl S oS h2 xM ec k4 k5;rw [k3] at dA;rw [k6] at dC;have eA:A≠i:=fun e=>hnd (e ▸ dA);have eC:C≠i:=fun e=>hnd (e ▸ dC);exact⟨bb,u,by rw [keep A hA Q8 eA]; exact h5,by rw [keep C hC hCS eC]; exact h6,h7,h8.on hb,hV C _ _ _ hC h9 hb⟩
  by_cases qC:i=S
  ·subst qC;obtain⟨⟨ea,h1,h2,h3⟩,ec,h4,h5,h6⟩:=hw o ho;have dA:=ji ea h1 h2;have dC:=ji ec h4 h5;rw [h3] at dA;rw [h6] at dC;obtain⟨v1,v2⟩:=hvs C hC hCS dC;obtain⟨bb,b1,b2,b3⟩:=I.box dA hnd;have vC:=v2 (Ne.symm Q9) (I.no _ Mx);refine Pg o ho a x bb (vs C) (done L) I.cl ji I.oC (dF b1) (dF v1) vC b2 b3 _ (fun x' q1 q2 q3=>⟨cl',no',I.df,I.sz,I.kp,q1,⟨vs,fun k hk uQ hdn=>?_⟩,fun _ hn=>absurd ((eX qz _).2 (Or.inl rfl)) hn,fun _=>⟨bb,vs C,b1,v1,b2,q2,?_⟩⟩)
   ·obtain⟨w1,w2⟩:=hvs k hk uQ (dd uQ hdn);refine⟨w1,fun Rf hnl=>?_⟩;have n1:last k≠i:=fun e=>hnl ((eX qz _).2 (Or.inl e));have n2:¬ done L (last k):=fun e=>hnl (du e);exact q3 k _ hk Rf uQ (dd uQ hdn) n2 n1 (w2 Rf n2)
   ·exact q3 C _ hC (Ne.symm Q9) hCS dC (I.no _ Mx) (by omega) vC
  ·by_cases Ie:i=A
   ·subst Ie;refine Sv o ho a x _ (MB qC _ _ ((aj _ _).alloc (Nat.le_refl _) _) (fun h=>absurd rfl h) (fun _=>⟨x.heap.size,rfl,I.oC.size,dO x zero t⟩))
   ·refine hop i o Ic Ie qC ho a x I.oC seen _ (fun v x' q1 q2=>MB qC v x' q2 (fun _=>q1) (fun e=>absurd e Ie))
 ·intro L a x I hd;have dS:=hd S (by omega);obtain⟨bb,v,h1,h2,h3,h4,h5⟩:=I.fin dS;obtain⟨vs,hvs⟩:=I.val;exact hend a x bb v I.df I.sz I.kp h1 h2 h3 h4 h5 I.oC ⟨vs,fun i hi qC Ie=>by
   obtain⟨k1,k2⟩:=hvs i hi qC (hd i (by omega));exact⟨k1,fun hl=>k2 Ie (I.no _ hl)⟩⟩
end Rg
namespace Av
open Go.RowKit Go.Sort Rw Ytmklifheakemeaa.Nm Pr Bk
def IG (B:Nat) (b1:Nat) (_me:Int) (_z2 _z4 _z5:ay) (o1:Option aK) (n1 c1:Nat) (nl:List Int) (o3:Option aK) (n3 c3:Nat) (sl:List eu) (i:Nat) (v:ay) (x:aD):Prop :=
 match i with
 | 0=>v=J (U ⟨b1,1,ah⟩)
 | 1=>v=O o1 n1 c1
 | 2=>∃ s:Sl,v=dR s/\rO x B v nl
 | 3=>v=J (U ⟨b1,3,ah⟩)
 | 4=>v=O o3 n3 c3
 | 5=>∃ s:Sl,v=dR s/\mG x B v sl
 | 6=>v=J (U ⟨b1,1,ah⟩)
 | _=>True
noncomputable def MG:Code:=((Try.f19.body.bind (dZ 1)).getD .skip)
theorem II (B:Nat) (b1:Nat) (me:Int) (z2 z4 z5:ay) (o1:Option aK) (n1 c1:Nat) (nl:List Int) (o3:Option aK) (n3 c3:Nat) (sl:List eu) (i:Nat) (v:ay) (x x':aD) (h:IG B b1 me z2 z4 z5 o1 n1 c1 nl o3 n3 c3 sl i v x) (hb:Below x.heap.size x x'):IG B b1 me z2 z4 z5 o1 n1 c1 nl o3 n3 c3 sl i v x':=by
 by_cases hi:i<7
 ·rcases (by omega:i=0\/i=1\/i=2\/i=3\/i=4\/i=5\/i=6) with rfl|rfl|rfl|rfl|rfl|rfl|rfl
  ·exact h
  ·exact h
  ·obtain⟨s,h1,h2⟩:=h; exact⟨s,h1,Bk.dB h2 hb⟩
  ·exact h
  ·exact h
  ·obtain⟨s,h1,h2⟩:=h; exact⟨s,h1,Bk.dB h2 hb⟩
  ·exact h
 ·unfold IG
  split <;> first | omega | trivial
theorem Sy (Q:Exit->aU->aD->Prop) (W:aD) (b1:Nat) (me:Int) (z2 z4 z5:ay) (o1:Option aK) (n1 c1:Nat) (nl:List Int) (o3:Option aK) (n3 c3:Nat) (sl:List eu) (u0 u2 u3 u4 u5 u6 u7 u8 u9 u10 u11 u12 u13 u14 u15 u16 u17 u18 u19 u20 u21 u22 u23 u24 u25 u26 u27 u28 u29 u30 u31 u32 u33 u34 u35 u36 u37 u38 u39 u40 u41 u42 u43 u44 u45 u46 u47 u48 u49 u50 u51 u52 u53 u54 u55 u56 u57 u58 u59 u60 u61 u62 u63 u64 u65 u66 u67 u68 u69 u70 u71 u72 u73 u74 u75 u76 u77 u78 u79 u80 u81:ay)
  (h1:dH W b1 #[aI aJ me,O o1 n1 c1,z2,O o3 n3 c3,z4,z5] 31) (r1:xD W (O o1 n1 c1) nl) (r3:rT W (O o3 n3 c3) sl) (l1:nl.length<=900) (l3:sl.length<=900)
  (hQ:∀ (x:aD) (v6 v7 v8 v9 v10 v11 v12 v13:ay) (p1:Option aK) (q1 s1:Nat) (p3:Option aK) (q3 s3:Nat),dH x b1 #[aI aJ me,O p1 q1 s1,z2,O p3 q3 s3,z4,z5] 31->rO x W.heap.size (O p1 q1 s1) nl->mG x W.heap.size (O p3 q3 s3) sl->(∀ B,B<=b1->Below B W x)->(∀ k,k<W.heap.size->k≠b1->x.heap[k]?=W.heap[k]?)->Q .normal ⟨(u0::J (U ⟨b1,0,ah⟩)::u2::u3::u4::u5::v6::v7::v8::v9::v10::v11::v12::v13::u14::u15::u16::u17::u18::u19::u20::u21::u22::u23::u24::u25::u26::u27::u28::u29::u30::u31::u32::u33::u34::u35::u36::u37::u38::u39::u40::u41::u42::u43::u44::u45::u46::u47::u48::u49::u50::u51::u52::u53::u54::u55::u56::u57::u58::u59::u60::u61::u62::u63::u64::u65::u66::u67::u68::u69::u70::u71::u72::u73::u74::u75::u76::u77::u78::u79::u80::u81::[]).toArray,[]⟩ x) :
  Code.wp Try.prog MG Q ⟨(u0::J (U ⟨b1,0,ah⟩)::u2::u3::u4::u5::u6::u7::u8::u9::u10::u11::u12::u13::u14::u15::u16::u17::u18::u19::u20::u21::u22::u23::u24::u25::u26::u27::u28::u29::u30::u31::u32::u33::u34::u35::u36::u37::u38::u39::u40::u41::u42::u43::u44::u45::u46::u47::u48::u49::u50::u51::u52::u53::u54::u55::u56::u57::u58::u59::u60::u61::u62::u63::u64::u65::u66::u67::u68::u69::u70::u71::u72::u73::u74::u75::u76::u77::u78::u79::u80::u81::[]).toArray,[]⟩ W:=by
 have HQ:=au hQ;have H1:=au h1;have R1:=au r1;have R3:=au r3;have L1:=au l1;have L3:=au l3;clear hQ h1 r1 r3 l1 l3;have mQ:=II W.heap.size b1 me z2 z4 z5 o1 n1 c1 nl o3 n3 c3 sl;unfold MG
 conv=>arg 2; whnf
 have nd:∀ j,(j<6\/13<=j)->∀ i,i<7->(fun i=>6+i) i≠j:=by
  intro j hj i hi h;simp only at h;omega
 refine aX 10 7 (fun i=>6+i) (fun _=>7) (IG W.heap.size b1 me z2 z4 z5 o1 n1 c1 nl o3 n3 c3 sl) (by kernel_rfl) (by kernel_rfl) rfl (by decide) (fun i j _ _ h=>by have h2:6+i=6+j:=h; omega) (fun i hi=>by show 6+i<82; omega) ?_ (fun _=>aY 14 (by kernel_rfl)) ?_ ?_
 ·intro i o hi ho a x D hnd hc hD hb seen K hK;clear HQ;rcases (by omega:i=0\/i=1\/i=2\/i=3\/i=4\/i=5\/i=6) with rfl|rfl|rfl|rfl|rfl|rfl|rfl
  ·cases ho;have e1:a.eval (ak 1)=J (U ⟨b1,0,ah⟩):=seen.kp 1 _ (nd 1 (by omega)) rfl;exact aF rfl rfl (aN a.eval _ 31 (ak 1) 1 rfl (by rw [e1]; simp [go_sem])) (hK _ _ rfl (aj _ _) fun _ _ _ _ _ _ _ h=>h)
  ·cases ho;have e6:a.eval (ak 6)=J (U ⟨b1,1,ah⟩):=seen.at_ ⟨0,.data⟩ (by simp) rfl (aA (by decide));have y1:=(H1.out.on hb).cell 1;simp only [X,Y,Z] at y1;exact aF rfl rfl (aO a.eval _ 23 (ak 6) rfl (by rw [e6]; simp [go_sem,y1])) (hK _ _ rfl (aj _ _) fun _ _ _ _ _ _ _ h=>h)
  ·cases ho;have e7:a.eval (ak 7)=O o1 n1 c1:=seen.at_ ⟨1,.data⟩ (by simp) rfl (aA (by decide));exact aS rfl rfl (Rw.gT a.eval _ (ak 7) 23 25 rfl e7 rfl _ (eT Try.func25 rfl rfl _ _)) (rU (o1,n1,c1) nl x (R1.out.on hb) L1.out) fun e w1 h=>by
    obtain⟨⟨s,rfl,h1⟩,h3⟩:=h;exact⟨_,rfl,hK _ _ ⟨s,rfl,dK h1 hb.size⟩ (h3.mono hb.size) fun j u hj _ _ _ hne h=>mQ j u _ _ h h3⟩
  ·cases ho;have e1:a.eval (ak 1)=J (U ⟨b1,0,ah⟩):=seen.kp 1 _ (nd 1 (by omega)) rfl;exact aF rfl rfl (aN a.eval _ 31 (ak 1) 3 rfl (by rw [e1]; simp [go_sem])) (hK _ _ rfl (aj _ _) fun _ _ _ _ _ _ _ h=>h)
  ·cases ho;have e9:a.eval (ak 9)=J (U ⟨b1,3,ah⟩):=seen.at_ ⟨3,.data⟩ (by simp) rfl (aA (by decide));have y3:=(H1.out.on hb).cell 3;simp only [X,Y,Z] at y3;exact aF rfl rfl (aO a.eval _ 27 (ak 9) rfl (by rw [e9]; simp [go_sem,y3])) (hK _ _ rfl (aj _ _) fun _ _ _ _ _ _ _ h=>h)
  ·cases ho;have e10:a.eval (ak 10)=O o3 n3 c3:=seen.at_ ⟨4,.data⟩ (by simp) rfl (aA (by decide));exact aS rfl rfl (Rw.gT a.eval _ (ak 10) 27 44 rfl e10 rfl _ (eT Try.func44 rfl rfl _ _)) (Ah (o3,n3,c3) sl x (R3.out.on hb) L3.out) fun e w1 h=>by
    obtain⟨⟨s,rfl,h1⟩,h3⟩:=h;exact⟨_,rfl,hK _ _ ⟨s,rfl,dK h1 hb.size⟩ (h3.mono hb.size) fun j u hj _ _ _ hne h=>mQ j u _ _ h h3⟩
  ·cases ho;have e1:a.eval (ak 1)=J (U ⟨b1,0,ah⟩):=seen.kp 1 _ (nd 1 (by omega)) rfl;exact aF rfl rfl (aN a.eval _ 31 (ak 1) 1 rfl (by rw [e1]; simp [go_sem])) (hK _ _ rfl (aj _ _) fun _ _ _ _ _ _ _ h=>h)
 ·intro kk o h1 h2 ho;rcases (by omega:kk=8\/kk=9) with rfl|rfl
  ·cases ho;exact⟨⟨7,.phase⟩,by simp,rfl,rfl⟩
  ·cases ho;exact⟨⟨8,.data⟩,by simp,rfl,rfl⟩
 ·intro a w' df sz kp ⟨vs,hv⟩ hb;have sz':a.tmps.size=82:=sz;have g1:a.tmps[1]?=U (J (U ⟨b1,0,ah⟩)):=(kp 1 (nd 1 (by omega))).trans rfl;have g12:a.tmps[12]?=U (J (U ⟨b1,1,ah⟩)):=by
   have h:vs 6=J (U ⟨b1,1,ah⟩):=(hv 6 (by omega)).2 (by decide);rw [<- h];exact (hv 6 (by omega)).1
  obtain⟨⟨p1,q1,s1⟩,hs1,ho1⟩:=(hv 2 (by omega)).2 (by decide);have g8:a.tmps[8]?=U (O p1 q1 s1):=((hv 2 (by omega)).1).trans (congrArg U hs1);rw [hs1] at ho1;obtain⟨⟨p3,q3,s3⟩,hs3,ho3⟩:=(hv 5 (by omega)).2 (by decide);have g11:a.tmps[11]?=U (O p3 q3 s3):=((hv 5 (by omega)).1).trans (congrArg U hs3);rw [hs3] at ho3;have hB:=H1.out.on hb;have hlt:=H1.out.lt;show aR _ _ _ 3 7 a w';simp only [aR];have Rh:=hB.cell 1;have Sz:=hB.fr 1;simp only [X,Y,Z] at Rh;refine aT 23 (ak 12) (ak 8) rfl rfl rfl rfl (aL g12) (aL g8) (w':=(w').setCell ⟨b1,1,ah⟩ (O p1 q1 s1)) (by simp [go_sem,Rh,Sz]) ?_;have hB1:dH ((w').setCell ⟨b1,1,ah⟩ (O p1 q1 s1)) b1 #[aI aJ me,O p1 q1 s1,z2,O o3 n3 c3,z4,z5] 31:=by simpa using dY (k:=1) hB (O p1 q1 s1)
  refine aF rfl rfl (aN _ _ 31 (ak 1) 3 rfl (v:=J (U ⟨b1,3,ah⟩)) (by rw [aL g1]; simp [go_sem])) ?_;have Pm:((a).put (U 13) (J (U ⟨b1,3,ah⟩))).tmps[13]?=U (J (U ⟨b1,3,ah⟩)):=by simp [Act.put,sz']
  show aW _ _ _ 9 _ ((a).put (U 13) (J (U ⟨b1,3,ah⟩))) _;have Ri:=hB1.cell 3;have SA:=hB1.fr 3;simp only [X,Y,Z] at Ri;refine aT 27 (ak 13) (ak 11) rfl rfl rfl rfl (aL Pm) (aL ((aH _ 13 _ 11 (by decide)).trans g11)) (w':=((w').setCell ⟨b1,1,ah⟩ (O p1 q1 s1)).setCell ⟨b1,3,ah⟩ (O p3 q3 s3)) (by simp [go_sem,Ri,SA]) ?_;have hB3:dH (((w').setCell ⟨b1,1,ah⟩ (O p1 q1 s1)).setCell ⟨b1,3,ah⟩ (O p3 q3 s3)) b1 #[aI aJ me,O p1 q1 s1,z2,O p3 q3 s3,z4,z5] 31:=by simpa using dY (k:=3) hB1 (O p3 q3 s3)
  have uR:∀ j,(j<6\/14<=j)->((a).put (U 13) (J (U ⟨b1,3,ah⟩))).tmps[j]?=(u0::J (U ⟨b1,0,ah⟩)::u2::u3::u4::u5::u6::u7::u8::u9::u10::u11::u12::u13::u14::u15::u16::u17::u18::u19::u20::u21::u22::u23::u24::u25::u26::u27::u28::u29::u30::u31::u32::u33::u34::u35::u36::u37::u38::u39::u40::u41::u42::u43::u44::u45::u46::u47::u48::u49::u50::u51::u52::u53::u54::u55::u56::u57::u58::u59::u60::u61::u62::u63::u64::u65::u66::u67::u68::u69::u70::u71::u72::u73::u74::u75::u76::u77::u78::u79::u80::u81::[])[j]?:=fun j hj=>(aH _ 13 _ j (by omega)).trans ((kp j (nd j (by omega))).trans X);obtain⟨mid,hmid,hfr⟩:=aZ (a:=(a).put (U 13) (J (U ⟨b1,3,ah⟩))) 6 8 df (by simp [aV,sz']) (by simp) uR;show Q .normal ((a).put (U 13) (J (U ⟨b1,3,ah⟩))) _;rw [hfr]
  match mid,hmid with
  | [v6,v7,v8,v9,v10,v11,v12,v13],_ =>
   exact HQ.out _ _ _ _ _ _ _ _ _ p1 q1 s1 p3 q3 s3 hB3 (dX (dX ho1 b1 1 (O p1 q1 s1) hlt) b1 3 (O p3 q3 s3) hlt) (dX (dX ho3 b1 1 (O p1 q1 s1) hlt) b1 3 (O p3 q3 s3) hlt) (fun B hBl=>(((hb.mono (Nat.le_of_lt (Nat.lt_of_le_of_lt hBl hlt))).setCell (p:=⟨b1,1,ah⟩) hBl (O p1 q1 s1)).setCell (p:=⟨b1,3,ah⟩) hBl (O p3 q3 s3))) (fun k hk hne=>((aB ((w').setCell ⟨b1,1,ah⟩ (O p1 q1 s1)) ⟨b1,3,ah⟩ (O p3 q3 s3) k hne).trans ((aB (w') ⟨b1,1,ah⟩ (O p1 q1 s1) k hne).trans (hb.block k hk))))
def IJ (B:Nat) (b1:Nat) (_me:Int) (_z1 _z3:ay) (o2:Option aK) (n2 c2:Nat) (al:List jr) (o4:Option aK) (n4 c4:Nat) (el:List gM) (o5:Option aK) (n5 c5:Nat) (ol:List uL) (i:Nat) (v:ay) (x:aD):Prop :=
 match i with
 | 0=>v=J (U ⟨b1,2,ah⟩)
 | 1=>v=O o2 n2 c2
 | 2=>∃ s:Sl,v=dR s/\oL x B v al
 | 3=>v=J (U ⟨b1,4,ah⟩)
 | 4=>v=O o4 n4 c4
 | 5=>∃ s:Sl,v=dR s/\jl x B v el
 | 6=>v=J (U ⟨b1,5,ah⟩)
 | 7=>v=O o5 n5 c5
 | 8=>∃ s:Sl,v=dR s/\wJ x B v ol
 | 9=>v=J (U ⟨b1,2,ah⟩)
 | _=>True
noncomputable def MH:Code:=((Try.f19.body.bind (dZ 2)).getD .skip)
theorem IK (B:Nat) (b1:Nat) (me:Int) (z1 z3:ay) (o2:Option aK) (n2 c2:Nat) (al:List jr) (o4:Option aK) (n4 c4:Nat) (el:List gM) (o5:Option aK) (n5 c5:Nat) (ol:List uL) (i:Nat) (v:ay) (x x':aD) (h:IJ B b1 me z1 z3 o2 n2 c2 al o4 n4 c4 el o5 n5 c5 ol i v x) (hb:Below x.heap.size x x'):IJ B b1 me z1 z3 o2 n2 c2 al o4 n4 c4 el o5 n5 c5 ol i v x':=by
 by_cases hi:i<10
 ·rcases (by omega:i=0\/i=1\/i=2\/i=3\/i=4\/i=5\/i=6\/i=7\/i=8\/i=9) with rfl|rfl|rfl|rfl|rfl|rfl|rfl|rfl|rfl|rfl
  ·exact h
  ·exact h
  ·obtain⟨s,h1,h2⟩:=h; exact⟨s,h1,Bk.dB h2 hb⟩
  ·exact h
  ·exact h
  ·obtain⟨s,h1,h2⟩:=h; exact⟨s,h1,Bk.dB h2 hb⟩
  ·exact h
  ·exact h
  ·obtain⟨s,h1,h2⟩:=h; exact⟨s,h1,Bk.dB h2 hb⟩
  ·exact h
 ·unfold IJ
  split <;> first | omega | trivial
theorem cp2 (Q:Exit->aU->aD->Prop) (W:aD) (b1:Nat) (me:Int) (z1 z3:ay) (o2:Option aK) (n2 c2:Nat) (al:List jr) (o4:Option aK) (n4 c4:Nat) (el:List gM) (o5:Option aK) (n5 c5:Nat) (ol:List uL) (u0 u2 u3 u4 u5 u6 u7 u8 u9 u10 u11 u12 u13 u14 u15 u16 u17 u18 u19 u20 u21 u22 u23 u24 u25 u26 u27 u28 u29 u30 u31 u32 u33 u34 u35 u36 u37 u38 u39 u40 u41 u42 u43 u44 u45 u46 u47 u48 u49 u50 u51 u52 u53 u54 u55 u56 u57 u58 u59 u60 u61 u62 u63 u64 u65 u66 u67 u68 u69 u70 u71 u72 u73 u74 u75 u76 u77 u78 u79 u80 u81:ay)
  (h1:dH W b1 #[aI aJ me,z1,O o2 n2 c2,z3,O o4 n4 c4,O o5 n5 c5] 31) (r2:Af W (O o2 n2 c2) al) (r4:jR W (O o4 n4 c4) el) (r5:Mt W (O o5 n5 c5) ol) (l2:al.length<=900) (l4:el.length<=900) (l5:ol.length<=900)
  (hQ:∀ (x:aD) (v14 v15 v16 v17 v18 v19 v20 v21 v22 v23 v24 v25:ay) (p2:Option aK) (q2 s2:Nat) (p4:Option aK) (q4 s4:Nat) (p5:Option aK) (q5 s5:Nat),dH x b1 #[aI aJ me,z1,O p2 q2 s2,z3,O p4 q4 s4,O p5 q5 s5] 31->oL x W.heap.size (O p2 q2 s2) al->jl x W.heap.size (O p4 q4 s4) el->wJ x W.heap.size (O p5 q5 s5) ol->(∀ B,B<=b1->Below B W x)->(∀ k,k<W.heap.size->k≠b1->x.heap[k]?=W.heap[k]?)->Q .normal ⟨(u0::J (U ⟨b1,0,ah⟩)::u2::u3::u4::u5::u6::u7::u8::u9::u10::u11::u12::u13::v14::v15::v16::v17::v18::v19::v20::v21::v22::v23::v24::v25::u26::u27::u28::u29::u30::u31::u32::u33::u34::u35::u36::u37::u38::u39::u40::u41::u42::u43::u44::u45::u46::u47::u48::u49::u50::u51::u52::u53::u54::u55::u56::u57::u58::u59::u60::u61::u62::u63::u64::u65::u66::u67::u68::u69::u70::u71::u72::u73::u74::u75::u76::u77::u78::u79::u80::u81::[]).toArray,[]⟩ x) :
  Code.wp Try.prog MH Q ⟨(u0::J (U ⟨b1,0,ah⟩)::u2::u3::u4::u5::u6::u7::u8::u9::u10::u11::u12::u13::u14::u15::u16::u17::u18::u19::u20::u21::u22::u23::u24::u25::u26::u27::u28::u29::u30::u31::u32::u33::u34::u35::u36::u37::u38::u39::u40::u41::u42::u43::u44::u45::u46::u47::u48::u49::u50::u51::u52::u53::u54::u55::u56::u57::u58::u59::u60::u61::u62::u63::u64::u65::u66::u67::u68::u69::u70::u71::u72::u73::u74::u75::u76::u77::u78::u79::u80::u81::[]).toArray,[]⟩ W:=by
 have HQ:=au hQ;have H1:=au h1;have R2:=au r2;have R4:=au r4;have R5:=au r5;have L2:=au l2;have L4:=au l4;have L5:=au l5;clear hQ h1 r2 r4 r5 l2 l4 l5;have mQ:=IK W.heap.size b1 me z1 z3 o2 n2 c2 al o4 n4 c4 el o5 n5 c5 ol;unfold MH
 conv=>arg 2; whnf
 have nd:∀ j,(j<14\/24<=j)->∀ i,i<10->(fun i=>14+i) i≠j:=by
  intro j hj i hi h;simp only at h;omega
 refine aX 15 10 (fun i=>14+i) (fun _=>10) (IJ W.heap.size b1 me z1 z3 o2 n2 c2 al o4 n4 c4 el o5 n5 c5 ol) (by kernel_rfl) (by kernel_rfl) rfl (by decide) (fun i j _ _ h=>by have h2:14+i=14+j:=h; omega) (fun i hi=>by show 14+i<82; omega) ?_ (fun _=>aY 14 (by kernel_rfl)) ?_ ?_
 ·intro i o hi ho a x D hnd hc hD hb seen K hK;clear HQ;rcases (by omega:i=0\/i=1\/i=2\/i=3\/i=4\/i=5\/i=6\/i=7\/i=8\/i=9) with rfl|rfl|rfl|rfl|rfl|rfl|rfl|rfl|rfl|rfl
  ·cases ho;have e1:a.eval (ak 1)=J (U ⟨b1,0,ah⟩):=seen.kp 1 _ (nd 1 (by omega)) rfl;exact aF rfl rfl (aN a.eval _ 31 (ak 1) 2 rfl (by rw [e1]; simp [go_sem])) (hK _ _ rfl (aj _ _) fun _ _ _ _ _ _ _ h=>h)
  ·cases ho;have e14:a.eval (ak 14)=J (U ⟨b1,2,ah⟩):=seen.at_ ⟨0,.data⟩ (by simp) rfl (aA (by decide));have y2:=(H1.out.on hb).cell 2;simp only [X,Y,Z] at y2;exact aF rfl rfl (aO a.eval _ 26 (ak 14) rfl (by rw [e14]; simp [go_sem,y2])) (hK _ _ rfl (aj _ _) fun _ _ _ _ _ _ _ h=>h)
  ·cases ho;have e15:a.eval (ak 15)=O o2 n2 c2:=seen.at_ ⟨1,.data⟩ (by simp) rfl (aA (by decide));exact aS rfl rfl (Rw.gT a.eval _ (ak 15) 26 45 rfl e15 rfl _ (eT Try.func45 rfl rfl _ _)) (Ai (o2,n2,c2) al x (R2.out.on hb) L2.out) fun e w1 h=>by
    obtain⟨⟨s,rfl,h1⟩,h3⟩:=h;exact⟨_,rfl,hK _ _ ⟨s,rfl,dK h1 hb.size⟩ (h3.mono hb.size) fun j u hj _ _ _ hne h=>mQ j u _ _ h h3⟩
  ·cases ho;have e1:a.eval (ak 1)=J (U ⟨b1,0,ah⟩):=seen.kp 1 _ (nd 1 (by omega)) rfl;exact aF rfl rfl (aN a.eval _ 31 (ak 1) 4 rfl (by rw [e1]; simp [go_sem])) (hK _ _ rfl (aj _ _) fun _ _ _ _ _ _ _ h=>h)
  ·cases ho;have e17:a.eval (ak 17)=J (U ⟨b1,4,ah⟩):=seen.at_ ⟨3,.data⟩ (by simp) rfl (aA (by decide));have y4:=(H1.out.on hb).cell 4;simp only [X,Y,Z] at y4;exact aF rfl rfl (aO a.eval _ 28 (ak 17) rfl (by rw [e17]; simp [go_sem,y4])) (hK _ _ rfl (aj _ _) fun _ _ _ _ _ _ _ h=>h)
  ·cases ho;have e18:a.eval (ak 18)=O o4 n4 c4:=seen.at_ ⟨4,.data⟩ (by simp) rfl (aA (by decide));exact aS rfl rfl (Rw.gT a.eval _ (ak 18) 28 46 rfl e18 rfl _ (eT Try.func46 rfl rfl _ _)) (Aj (o4,n4,c4) el x (R4.out.on hb) L4.out) fun e w1 h=>by
    obtain⟨⟨s,rfl,h1⟩,h3⟩:=h;exact⟨_,rfl,hK _ _ ⟨s,rfl,dK h1 hb.size⟩ (h3.mono hb.size) fun j u hj _ _ _ hne h=>mQ j u _ _ h h3⟩
  ·cases ho;have e1:a.eval (ak 1)=J (U ⟨b1,0,ah⟩):=seen.kp 1 _ (nd 1 (by omega)) rfl;exact aF rfl rfl (aN a.eval _ 31 (ak 1) 5 rfl (by rw [e1]; simp [go_sem])) (hK _ _ rfl (aj _ _) fun _ _ _ _ _ _ _ h=>h)
  ·cases ho;have e20:a.eval (ak 20)=J (U ⟨b1,5,ah⟩):=seen.at_ ⟨6,.data⟩ (by simp) rfl (aA (by decide));have y5:=(H1.out.on hb).cell 5;simp only [X,Y,Z] at y5;exact aF rfl rfl (aO a.eval _ 29 (ak 20) rfl (by rw [e20]; simp [go_sem,y5])) (hK _ _ rfl (aj _ _) fun _ _ _ _ _ _ _ h=>h)
  ·cases ho;have e21:a.eval (ak 21)=O o5 n5 c5:=seen.at_ ⟨7,.data⟩ (by simp) rfl (aA (by decide));exact aS rfl rfl (Rw.gT a.eval _ (ak 21) 29 47 rfl e21 rfl _ (eT Try.func47 rfl rfl _ _)) (Ak (o5,n5,c5) ol x (R5.out.on hb) L5.out) fun e w1 h=>by
    obtain⟨⟨s,rfl,h1⟩,h3⟩:=h;exact⟨_,rfl,hK _ _ ⟨s,rfl,dK h1 hb.size⟩ (h3.mono hb.size) fun j u hj _ _ _ hne h=>mQ j u _ _ h h3⟩
  ·cases ho;have e1:a.eval (ak 1)=J (U ⟨b1,0,ah⟩):=seen.kp 1 _ (nd 1 (by omega)) rfl;exact aF rfl rfl (aN a.eval _ 31 (ak 1) 2 rfl (by rw [e1]; simp [go_sem])) (hK _ _ rfl (aj _ _) fun _ _ _ _ _ _ _ h=>h)
 ·intro kk o h1 h2 ho;rcases (by omega:kk=11\/kk=12\/kk=13\/kk=14) with rfl|rfl|rfl|rfl
  ·cases ho;exact⟨⟨10,.phase⟩,by simp,rfl,rfl⟩
  ·cases ho;exact⟨⟨11,.data⟩,by simp,rfl,rfl⟩
  ·cases ho;exact⟨⟨12,.phase⟩,by simp,rfl,rfl⟩
  ·cases ho;exact⟨⟨13,.data⟩,by simp,rfl,rfl⟩
 ·intro a w' df sz kp ⟨vs,hv⟩ hb;have sz':a.tmps.size=82:=sz;have g1:a.tmps[1]?=U (J (U ⟨b1,0,ah⟩)):=(kp 1 (nd 1 (by omega))).trans rfl;have g23:a.tmps[23]?=U (J (U ⟨b1,2,ah⟩)):=by
   have h:vs 9=J (U ⟨b1,2,ah⟩):=(hv 9 (by omega)).2 (by decide);rw [<- h];exact (hv 9 (by omega)).1
  obtain⟨⟨p2,q2,s2⟩,hs2,ho2⟩:=(hv 2 (by omega)).2 (by decide);have g16:a.tmps[16]?=U (O p2 q2 s2):=((hv 2 (by omega)).1).trans (congrArg U hs2);rw [hs2] at ho2;obtain⟨⟨p4,q4,s4⟩,hs4,Rj⟩:=(hv 5 (by omega)).2 (by decide);have g19:a.tmps[19]?=U (O p4 q4 s4):=((hv 5 (by omega)).1).trans (congrArg U hs4);rw [hs4] at Rj;obtain⟨⟨p5,q5,s5⟩,hs5,Rk⟩:=(hv 8 (by omega)).2 (by decide);have g22:a.tmps[22]?=U (O p5 q5 s5):=((hv 8 (by omega)).1).trans (congrArg U hs5);rw [hs5] at Rk;have hB:=H1.out.on hb;have hlt:=H1.out.lt;show aR _ _ _ 5 10 a w';simp only [aR];have Rm:=hB.cell 2;have SB:=hB.fr 2;simp only [X,Y,Z] at Rm;refine aT 26 (ak 23) (ak 16) rfl rfl rfl rfl (aL g23) (aL g16) (w':=(w').setCell ⟨b1,2,ah⟩ (O p2 q2 s2)) (by simp [go_sem,Rm,SB]) ?_;have hB2:dH ((w').setCell ⟨b1,2,ah⟩ (O p2 q2 s2)) b1 #[aI aJ me,z1,O p2 q2 s2,z3,O o4 n4 c4,O o5 n5 c5] 31:=by simpa using dY (k:=2) hB (O p2 q2 s2)
  refine aF rfl rfl (aN _ _ 31 (ak 1) 4 rfl (v:=J (U ⟨b1,4,ah⟩)) (by rw [aL g1]; simp [go_sem])) ?_;have Pn:((a).put (U 24) (J (U ⟨b1,4,ah⟩))).tmps[24]?=U (J (U ⟨b1,4,ah⟩)):=by simp [Act.put,sz']
  show aW _ _ _ 12 _ ((a).put (U 24) (J (U ⟨b1,4,ah⟩))) _;have Rn:=hB2.cell 4;have SC:=hB2.fr 4;simp only [X,Y,Z] at Rn;refine aT 28 (ak 24) (ak 19) rfl rfl rfl rfl (aL Pn) (aL ((aH _ 24 _ 19 (by decide)).trans g19)) (w':=((w').setCell ⟨b1,2,ah⟩ (O p2 q2 s2)).setCell ⟨b1,4,ah⟩ (O p4 q4 s4)) (by simp [go_sem,Rn,SC]) ?_;have hB4:dH (((w').setCell ⟨b1,2,ah⟩ (O p2 q2 s2)).setCell ⟨b1,4,ah⟩ (O p4 q4 s4)) b1 #[aI aJ me,z1,O p2 q2 s2,z3,O p4 q4 s4,O o5 n5 c5] 31:=by simpa using dY (k:=4) hB2 (O p4 q4 s4)
  refine aF rfl rfl (aN _ _ 31 (ak 1) 5 rfl (v:=J (U ⟨b1,5,ah⟩)) (by rw [aL ((aH _ 24 _ 1 (by decide)).trans g1)]; simp [go_sem])) ?_;have Po:(((a).put (U 24) (J (U ⟨b1,4,ah⟩))).put (U 25) (J (U ⟨b1,5,ah⟩))).tmps[25]?=U (J (U ⟨b1,5,ah⟩)):=by simp [Act.put,sz']
  show aW _ _ _ 14 _ (((a).put (U 24) (J (U ⟨b1,4,ah⟩))).put (U 25) (J (U ⟨b1,5,ah⟩))) _;have Ro:=hB4.cell 5;have SE:=hB4.fr 5;simp only [X,Y,Z] at Ro;refine aT 29 (ak 25) (ak 22) rfl rfl rfl rfl (aL Po) (aL ((aH _ 25 _ 22 (by decide)).trans ((aH _ 24 _ 22 (by decide)).trans g22))) (w':=(((w').setCell ⟨b1,2,ah⟩ (O p2 q2 s2)).setCell ⟨b1,4,ah⟩ (O p4 q4 s4)).setCell ⟨b1,5,ah⟩ (O p5 q5 s5)) (by simp [go_sem,Ro,SE]) ?_;have SF:dH ((((w').setCell ⟨b1,2,ah⟩ (O p2 q2 s2)).setCell ⟨b1,4,ah⟩ (O p4 q4 s4)).setCell ⟨b1,5,ah⟩ (O p5 q5 s5)) b1 #[aI aJ me,z1,O p2 q2 s2,z3,O p4 q4 s4,O p5 q5 s5] 31:=by simpa using dY (k:=5) hB4 (O p5 q5 s5)
  have uR:∀ j,(j<14\/26<=j)->(((a).put (U 24) (J (U ⟨b1,4,ah⟩))).put (U 25) (J (U ⟨b1,5,ah⟩))).tmps[j]?=(u0::J (U ⟨b1,0,ah⟩)::u2::u3::u4::u5::u6::u7::u8::u9::u10::u11::u12::u13::u14::u15::u16::u17::u18::u19::u20::u21::u22::u23::u24::u25::u26::u27::u28::u29::u30::u31::u32::u33::u34::u35::u36::u37::u38::u39::u40::u41::u42::u43::u44::u45::u46::u47::u48::u49::u50::u51::u52::u53::u54::u55::u56::u57::u58::u59::u60::u61::u62::u63::u64::u65::u66::u67::u68::u69::u70::u71::u72::u73::u74::u75::u76::u77::u78::u79::u80::u81::[])[j]?:=fun j hj=>(aH _ 25 _ j (by omega)).trans ((aH _ 24 _ j (by omega)).trans ((kp j (nd j (by omega))).trans X));obtain⟨mid,hmid,hfr⟩:=aZ (a:=((a).put (U 24) (J (U ⟨b1,4,ah⟩))).put (U 25) (J (U ⟨b1,5,ah⟩))) 14 12 df (by simp [aV,sz']) (by simp) uR;show Q .normal (((a).put (U 24) (J (U ⟨b1,4,ah⟩))).put (U 25) (J (U ⟨b1,5,ah⟩))) _;rw [hfr]
  match mid,hmid with
  | [v14,v15,v16,v17,v18,v19,v20,v21,v22,v23,v24,v25],_ =>
   exact HQ.out _ _ _ _ _ _ _ _ _ _ _ _ _ p2 q2 s2 p4 q4 s4 p5 q5 s5 SF (dX (dX (dX ho2 b1 2 (O p2 q2 s2) hlt) b1 4 (O p4 q4 s4) hlt) b1 5 (O p5 q5 s5) hlt) (dX (dX (dX Rj b1 2 (O p2 q2 s2) hlt) b1 4 (O p4 q4 s4) hlt) b1 5 (O p5 q5 s5) hlt) (dX (dX (dX Rk b1 2 (O p2 q2 s2) hlt) b1 4 (O p4 q4 s4) hlt) b1 5 (O p5 q5 s5) hlt) (fun B hBl=>((((hb.mono (Nat.le_of_lt (Nat.lt_of_le_of_lt hBl hlt))).setCell (p:=⟨b1,2,ah⟩) hBl (O p2 q2 s2)).setCell (p:=⟨b1,4,ah⟩) hBl (O p4 q4 s4)).setCell (p:=⟨b1,5,ah⟩) hBl (O p5 q5 s5))) (fun k hk hne=>((aB (((w').setCell ⟨b1,2,ah⟩ (O p2 q2 s2)).setCell ⟨b1,4,ah⟩ (O p4 q4 s4)) ⟨b1,5,ah⟩ (O p5 q5 s5) k hne).trans ((aB ((w').setCell ⟨b1,2,ah⟩ (O p2 q2 s2)) ⟨b1,4,ah⟩ (O p4 q4 s4) k hne).trans ((aB (w') ⟨b1,2,ah⟩ (O p2 q2 s2) k hne).trans (hb.block k hk)))))
def IU (B:Nat) (b1:Nat) (_me:Int) (_z1 _z3 _z4 _z5:ay) (g n cap k:Nat) (y1 y2:Int) (yo:Option aK) (yn yc:Nat) (y4:Int) (p:List C5) (i:Nat) (v:ay) (x:aD):Prop :=
 match i with
 | 0=>v=J (U ⟨b1,2,ah⟩)
 | 1=>v=O (U ⟨g,0,ah⟩) n cap
 | 2=>v=aI aJ (k:Int)
 | 3=>v=J (U ⟨b1,2,ah⟩)
 | 4=>v=O (U ⟨g,0,ah⟩) n cap
 | 5=>v=aI aJ (k:Int)
 | 6=>v=J (U ⟨g,k * 4,ah⟩)
 | 7=>v=kL (y1,y2,(yo,yn,yc),y4)
 | 8=>∃ s:Sl,v=kL (y1,y2,s,y4)/\qA x B (dR s) p
 | 9=>v=J (U ⟨g,k * 4,ah⟩)
 | _=>True
noncomputable def MI:Code:=((Try.f19.body.bind (dZ 6)).getD .skip)
theorem IW (B:Nat) (b1:Nat) (me:Int) (z1 z3 z4 z5:ay) (g n cap k:Nat) (y1 y2:Int) (yo:Option aK) (yn yc:Nat) (y4:Int) (p:List C5) (i:Nat) (v:ay) (x x':aD) (h:IU B b1 me z1 z3 z4 z5 g n cap k y1 y2 yo yn yc y4 p i v x) (hb:Below x.heap.size x x'):IU B b1 me z1 z3 z4 z5 g n cap k y1 y2 yo yn yc y4 p i v x':=by
 by_cases hi:i<10
 ·rcases (by omega:i=0\/i=1\/i=2\/i=3\/i=4\/i=5\/i=6\/i=7\/i=8\/i=9) with rfl|rfl|rfl|rfl|rfl|rfl|rfl|rfl|rfl|rfl
  ·exact h
  ·exact h
  ·exact h
  ·exact h
  ·exact h
  ·exact h
  ·exact h
  ·exact h
  ·obtain⟨s,h1,h2⟩:=h; exact⟨s,h1,Bk.dB h2 hb⟩
  ·exact h
 ·unfold IU
  split <;> first | omega | trivial
theorem SG (Q:Exit->aU->aD->Prop) (W:aD) (B0:Nat) (l:List jr) (b1:Nat) (me:Int) (z1 z3 z4 z5:ay) (g n cap k:Nat) (y1 y2:Int) (yo:Option aK) (yn yc:Nat) (y4:Int) (p:List C5) (u0 u2 u4 u5 u6 u7 u8 u9 u10 u11 u12 u13 u14 u15 u16 u17 u18 u19 u20 u21 u22 u23 u24 u25 u26 u27 u28 u29 u30 u31 u32 u33 u34 u35 u36 u37 u38 u39 u40 u41 u42 u43 u44 u45 u46 u47 u48 u49 u50 u51 u52 u53 u54 u55 u56 u57 u58 u59 u60 u61 u62 u63 u64 u65 u66 u67 u68 u69 u70 u71 u72 u73 u74 u75 u76 u77 u78 u79 u80 u81:ay)
  (h1:dH W b1 #[aI aJ me,z1,O (U ⟨g,0,ah⟩) n cap,z3,z4,z5] 31) (ho:oL W B0 (O (U ⟨g,0,ah⟩) n cap) l) (hy:l[k]?=U (y1,y2,(yo,yn,yc),y4)) (hp:iy W (O yo yn yc) p) (lp:p.length<=900)
  (hQ:∀ (x:aD) (v32 v33 v34 v35 v36 v37 v38 v39 v40 v41:ay) (s1:Option aK) (s2 s3:Nat),qA x W.heap.size (O s1 s2 s3) p->oL x B0 (O (U ⟨g,0,ah⟩) n cap) (l.set k (y1,y2,(s1,s2,s3),y4))->But g W x->(∀ B1,B1<=g->B1<=W.heap.size->Below B1 W x)->Q .normal ⟨(u0::J (U ⟨b1,0,ah⟩)::u2::aI aJ (k:Int)::u4::u5::u6::u7::u8::u9::u10::u11::u12::u13::u14::u15::u16::u17::u18::u19::u20::u21::u22::u23::u24::u25::u26::u27::u28::u29::u30::u31::v32::v33::v34::v35::v36::v37::v38::v39::v40::v41::u42::u43::u44::u45::u46::u47::u48::u49::u50::u51::u52::u53::u54::u55::u56::u57::u58::u59::u60::u61::u62::u63::u64::u65::u66::u67::u68::u69::u70::u71::u72::u73::u74::u75::u76::u77::u78::u79::u80::u81::[]).toArray,[]⟩ x) :
  Code.wp Try.prog MI Q ⟨(u0::J (U ⟨b1,0,ah⟩)::u2::aI aJ (k:Int)::u4::u5::u6::u7::u8::u9::u10::u11::u12::u13::u14::u15::u16::u17::u18::u19::u20::u21::u22::u23::u24::u25::u26::u27::u28::u29::u30::u31::u32::u33::u34::u35::u36::u37::u38::u39::u40::u41::u42::u43::u44::u45::u46::u47::u48::u49::u50::u51::u52::u53::u54::u55::u56::u57::u58::u59::u60::u61::u62::u63::u64::u65::u66::u67::u68::u69::u70::u71::u72::u73::u74::u75::u76::u77::u78::u79::u80::u81::[]).toArray,[]⟩ W:=by
 have HQ:=au hQ;have H1:=au h1;have HO:=au ho;have HY:=au hy;have HP:=au hp;have LP:=au lp;have IX:=au (nQ okD g k n cap (by obtain⟨_,_,hv⟩:=(Row.dM ho).len; have h:=(aG.1 hy).1; simp at hv; omega));have EL:=au (gW okD ho hy);clear hQ h1 ho hy hp lp;have mQ:=IW W.heap.size b1 me z1 z3 z4 z5 g n cap k y1 y2 yo yn yc y4 p;unfold MI
 conv=>arg 2; whnf
 have nd:∀ j,(j<32\/42<=j)->∀ i,i<10->(fun i=>32+i) i≠j:=by
  intro j hj i hi h;simp only at h;omega
 refine aX 11 10 (fun i=>32+i) (fun _=>10) (IU W.heap.size b1 me z1 z3 z4 z5 g n cap k y1 y2 yo yn yc y4 p) (by kernel_rfl) (by kernel_rfl) rfl (by decide) (fun i j _ _ h=>by have h2:32+i=32+j:=h; omega) (fun i hi=>by show 32+i<82; omega) ?_ (fun _=>aY 14 (by kernel_rfl)) ?_ ?_
 ·intro i o hi ho a x D hnd hc hD hb seen K hK;clear HQ;rcases (by omega:i=0\/i=1\/i=2\/i=3\/i=4\/i=5\/i=6\/i=7\/i=8\/i=9) with rfl|rfl|rfl|rfl|rfl|rfl|rfl|rfl|rfl|rfl
  ·cases ho;have e1:a.eval (ak 1)=J (U ⟨b1,0,ah⟩):=seen.kp 1 _ (nd 1 (by omega)) rfl;exact aF rfl rfl (aN a.eval _ 31 (ak 1) 2 rfl (by rw [e1]; simp [go_sem])) (hK _ _ rfl (aj _ _) fun _ _ _ _ _ _ _ h=>h)
  ·cases ho;have e32:a.eval (ak 32)=J (U ⟨b1,2,ah⟩):=seen.at_ ⟨0,.data⟩ (by simp) rfl (aA (by decide));have y2:=(H1.out.on hb).cell 2;simp only [X,Y,Z] at y2;exact aF rfl rfl (aO a.eval _ 26 (ak 32) rfl (by rw [e32]; simp [go_sem,y2])) (hK _ _ rfl (aj _ _) fun _ _ _ _ _ _ _ h=>h)
  ·cases ho;have e3:a.eval (ak 3)=aI aJ (k:Int):=seen.kp 3 _ (nd 3 (by omega)) rfl;exact aF rfl rfl (bf a.eval _ (ak 3) rfl x) (hK _ _ e3 (aj _ _) fun _ _ _ _ _ _ _ h=>h)
  ·cases ho;have e1:a.eval (ak 1)=J (U ⟨b1,0,ah⟩):=seen.kp 1 _ (nd 1 (by omega)) rfl;exact aF rfl rfl (aN a.eval _ 31 (ak 1) 2 rfl (by rw [e1]; simp [go_sem])) (hK _ _ rfl (aj _ _) fun _ _ _ _ _ _ _ h=>h)
  ·cases ho;have e35:a.eval (ak 35)=J (U ⟨b1,2,ah⟩):=seen.at_ ⟨3,.data⟩ (by simp) rfl (aA (by decide));have y2:=(H1.out.on hb).cell 2;simp only [X,Y,Z] at y2;exact aF rfl rfl (aO a.eval _ 26 (ak 35) rfl (by rw [e35]; simp [go_sem,y2])) (hK _ _ rfl (aj _ _) fun _ _ _ _ _ _ _ h=>h)
  ·cases ho;have e3:a.eval (ak 3)=aI aJ (k:Int):=seen.kp 3 _ (nd 3 (by omega)) rfl;exact aF rfl rfl (bf a.eval _ (ak 3) rfl x) (hK _ _ e3 (aj _ _) fun _ _ _ _ _ _ _ h=>h)
  ·cases ho;have e36:a.eval (ak 36)=O (U ⟨g,0,ah⟩) n cap:=seen.at_ ⟨4,.data⟩ (by simp) rfl (aA (by decide));have e37:a.eval (ak 37)=aI aJ (k:Int):=seen.at_ ⟨5,.data⟩ (by simp) rfl (aA (by decide));exact aF rfl rfl (bg a.eval _ 26 (ak 36) (ak 37) rfl (by rw [e36,e37]; exact IX.out x)) (hK _ _ rfl (aj _ _) fun _ _ _ _ _ _ _ h=>h)
  ·cases ho;have e38:a.eval (ak 38)=J (U ⟨g,k * 4,ah⟩):=seen.at_ ⟨6,.data⟩ (by simp) rfl (aA (by decide));exact aF rfl rfl (aO a.eval _ 37 (ak 38) rfl (by rw [e38]; exact JC x _ (y1,y2,(yo,yn,yc),y4) (EL.out x hb))) (hK _ _ rfl (aj _ _) fun _ _ _ _ _ _ _ h=>h)
  ·cases ho;have e39:a.eval (ak 39)=kL (y1,y2,(yo,yn,yc),y4):=seen.at_ ⟨7,.data⟩ (by simp) rfl (aA (by decide));exact aS rfl rfl (Rw.gT a.eval _ (ak 39) 37 21 rfl e39 rfl _ (eT Try.func21 rfl rfl _ _)) (rX (y1,y2,(yo,yn,yc),y4) p x (HP.out.on hb) LP.out) fun e w1 h=>by
    obtain⟨⟨s,rfl,h1⟩,h3⟩:=h;exact⟨_,rfl,hK _ _ ⟨s,rfl,dK h1 hb.size⟩ (h3.mono hb.size) fun j u hj _ _ _ hne h=>mQ j u _ _ h h3⟩
  ·cases ho;have e33:a.eval (ak 33)=O (U ⟨g,0,ah⟩) n cap:=seen.at_ ⟨1,.data⟩ (by simp) rfl (aA (by decide));have e34:a.eval (ak 34)=aI aJ (k:Int):=seen.at_ ⟨2,.data⟩ (by simp) rfl (aA (by decide));exact aF rfl rfl (bg a.eval _ 26 (ak 33) (ak 34) rfl (by rw [e33,e34]; exact IX.out x)) (hK _ _ rfl (aj _ _) fun _ _ _ _ _ _ _ h=>h)
 ·intro kk o h1 h2 ho;omega
 ·intro a w' df sz kp ⟨vs,hv⟩ hb;have sz':a.tmps.size=82:=sz;have g41:a.tmps[41]?=U (J (U ⟨g,k * 4,ah⟩)):=by
   have h:vs 9=J (U ⟨g,k * 4,ah⟩):=(hv 9 (by omega)).2 (by decide);rw [<- h];exact (hv 9 (by omega)).1
  obtain⟨⟨s1,s2,s3⟩,hs,hc⟩:=(hv 8 (by omega)).2 (by decide);have g40:a.tmps[40]?=U (kL (y1,y2,(s1,s2,s3),y4)):=((hv 8 (by omega)).1).trans (congrArg U hs);obtain⟨w2,hr,st1,st2,MJ⟩:=Kj (k:=k) (y1,y2,(s1,s2,s3),y4) (Bk.dB HO.out hb) (aG.1 HY.out).1;obtain⟨cur,hg⟩:=gu (Bk.dB HO.out hb);show aR _ _ _ 1 10 a w';simp only [aR];refine aT 37 (ak 41) (ak 40) rfl rfl rfl rfl (aL g41) (aL g40) (w':=w2) hr ?_;have uR:∀ j,(j<32\/42<=j)->(a).tmps[j]?=(u0::J (U ⟨b1,0,ah⟩)::u2::aI aJ (k:Int)::u4::u5::u6::u7::u8::u9::u10::u11::u12::u13::u14::u15::u16::u17::u18::u19::u20::u21::u22::u23::u24::u25::u26::u27::u28::u29::u30::u31::u32::u33::u34::u35::u36::u37::u38::u39::u40::u41::u42::u43::u44::u45::u46::u47::u48::u49::u50::u51::u52::u53::u54::u55::u56::u57::u58::u59::u60::u61::u62::u63::u64::u65::u66::u67::u68::u69::u70::u71::u72::u73::u74::u75::u76::u77::u78::u79::u80::u81::[])[j]?:=fun j hj=>(kp j (nd j (by omega))).trans X;obtain⟨mid,hmid,hfr⟩:=aZ (a:=a) 32 10 df (by simp [sz']) (by simp) uR;show Q .normal (a) _;rw [hfr]
  match mid,hmid with
  | [v32,v33,v34,v35,v36,v37,v38,v39,v40,v41],_ =>
   exact HQ.out _ _ _ _ _ _ _ _ _ _ _ s1 s2 s3 (st2.own hc hg (by decide)) st1 ((But.of_below hb).trans st2) fun B1 hB hl=>MJ B1 W hB (hb.mono hl)
def Bv (B:Nat) (b1:Nat) (_me:Int) (_z1 _z2 _z3 _z5:ay) (g n cap k:Nat) (_y1 _y2 _y3 _y4:Int) (yo:Option aK) (yn yc:Nat) (_y6:Int) (_y7:Bool) (p:List C5) (i:Nat) (v:ay) (x:aD):Prop :=
 match i with
 | 0=>v=J (U ⟨b1,4,ah⟩)
 | 1=>v=O (U ⟨g,0,ah⟩) n cap
 | 2=>v=aI aJ (k:Int)
 | 3=>v=J (U ⟨b1,4,ah⟩)
 | 4=>v=O (U ⟨g,0,ah⟩) n cap
 | 5=>v=aI aJ (k:Int)
 | 6=>v=J (U ⟨g,k * 7,ah⟩)
 | 7=>v=J (U ⟨g,k * 7+4,ah⟩)
 | 8=>v=O yo yn yc
 | 9=>∃ s:Sl,v=dR s/\qA x B v p
 | 10=>v=J (U ⟨g,k * 7,ah⟩)
 | 11=>v=J (U ⟨g,k * 7+4,ah⟩)
 | _=>True
noncomputable def JF:Code:=((Try.f19.body.bind (dZ 11)).getD .skip)
theorem Fx (B:Nat) (b1:Nat) (me:Int) (z1 z2 z3 z5:ay) (g n cap k:Nat) (y1 y2 y3 y4:Int) (yo:Option aK) (yn yc:Nat) (y6:Int) (y7:Bool) (p:List C5) (i:Nat) (v:ay) (x x':aD) (h:Bv B b1 me z1 z2 z3 z5 g n cap k y1 y2 y3 y4 yo yn yc y6 y7 p i v x) (hb:Below x.heap.size x x'):Bv B b1 me z1 z2 z3 z5 g n cap k y1 y2 y3 y4 yo yn yc y6 y7 p i v x':=by
 by_cases hi:i<12
 ·rcases (by omega:i=0\/i=1\/i=2\/i=3\/i=4\/i=5\/i=6\/i=7\/i=8\/i=9\/i=10\/i=11) with rfl|rfl|rfl|rfl|rfl|rfl|rfl|rfl|rfl|rfl|rfl|rfl
  ·exact h
  ·exact h
  ·exact h
  ·exact h
  ·exact h
  ·exact h
  ·exact h
  ·exact h
  ·exact h
  ·obtain⟨s,h1,h2⟩:=h; exact⟨s,h1,Bk.dB h2 hb⟩
  ·exact h
  ·exact h
 ·unfold Bv
  split <;> first | omega | trivial
theorem Pp (Q:Exit->aU->aD->Prop) (W:aD) (B0:Nat) (l:List gM) (b1:Nat) (me:Int) (z1 z2 z3 z5:ay) (g n cap k:Nat) (y1 y2 y3 y4:Int) (yo:Option aK) (yn yc:Nat) (y6:Int) (y7:Bool) (p:List C5) (u0 u2 u3 u5 u6 u7 u8 u9 u10 u11 u12 u13 u14 u15 u16 u17 u18 u19 u20 u21 u22 u23 u24 u25 u26 u27 u28 u29 u30 u31 u32 u33 u34 u35 u36 u37 u38 u39 u40 u41 u42 u43 u44 u45 u46 u47 u48 u49 u50 u51 u52 u53 u54 u55 u56 u57 u58 u59 u60 u61 u62 u63 u64 u65 u66 u67 u68 u69 u70 u71 u72 u73 u74 u75 u76 u77 u78 u79 u80 u81:ay)
  (h1:dH W b1 #[aI aJ me,z1,z2,z3,O (U ⟨g,0,ah⟩) n cap,z5] 31) (ho:jl W B0 (O (U ⟨g,0,ah⟩) n cap) l) (hy:l[k]?=U (y1,y2,y3,y4,(yo,yn,yc),y6,y7)) (hp:iy W (O yo yn yc) p) (lp:p.length<=900)
  (hQ:∀ (x:aD) (v49 v50 v51 v52 v53 v54 v55 v56 v57 v58 v59 v60:ay) (s1:Option aK) (s2 s3:Nat),qA x W.heap.size (O s1 s2 s3) p->jl x B0 (O (U ⟨g,0,ah⟩) n cap) (l.set k (y1,y2,y3,y4,(s1,s2,s3),y6,y7))->But g W x->(∀ B1,B1<=g->B1<=W.heap.size->Below B1 W x)->Q .normal ⟨(u0::J (U ⟨b1,0,ah⟩)::u2::u3::aI aJ (k:Int)::u5::u6::u7::u8::u9::u10::u11::u12::u13::u14::u15::u16::u17::u18::u19::u20::u21::u22::u23::u24::u25::u26::u27::u28::u29::u30::u31::u32::u33::u34::u35::u36::u37::u38::u39::u40::u41::u42::u43::u44::u45::u46::u47::u48::v49::v50::v51::v52::v53::v54::v55::v56::v57::v58::v59::v60::u61::u62::u63::u64::u65::u66::u67::u68::u69::u70::u71::u72::u73::u74::u75::u76::u77::u78::u79::u80::u81::[]).toArray,[]⟩ x) :
  Code.wp Try.prog JF Q ⟨(u0::J (U ⟨b1,0,ah⟩)::u2::u3::aI aJ (k:Int)::u5::u6::u7::u8::u9::u10::u11::u12::u13::u14::u15::u16::u17::u18::u19::u20::u21::u22::u23::u24::u25::u26::u27::u28::u29::u30::u31::u32::u33::u34::u35::u36::u37::u38::u39::u40::u41::u42::u43::u44::u45::u46::u47::u48::u49::u50::u51::u52::u53::u54::u55::u56::u57::u58::u59::u60::u61::u62::u63::u64::u65::u66::u67::u68::u69::u70::u71::u72::u73::u74::u75::u76::u77::u78::u79::u80::u81::[]).toArray,[]⟩ W:=by
 have HQ:=au hQ;have H1:=au h1;have HO:=au ho;have HY:=au hy;have HP:=au hp;have LP:=au lp;have IX:=au (nQ kK g k n cap (by obtain⟨_,_,hv⟩:=(Row.dM ho).len; have h:=(aG.1 hy).1; simp at hv; omega));have EL:=au (gW kK ho hy);clear hQ h1 ho hy hp lp;have mQ:=Fx W.heap.size b1 me z1 z2 z3 z5 g n cap k y1 y2 y3 y4 yo yn yc y6 y7 p;unfold JF
 conv=>arg 2; whnf
 have nd:∀ j,(j<49\/61<=j)->∀ i,i<12->(fun i=>49+i) i≠j:=by
  intro j hj i hi h;simp only at h;omega
 refine aX 13 12 (fun i=>49+i) (fun _=>12) (Bv W.heap.size b1 me z1 z2 z3 z5 g n cap k y1 y2 y3 y4 yo yn yc y6 y7 p) (by kernel_rfl) (by kernel_rfl) rfl (by decide) (fun i j _ _ h=>by have h2:49+i=49+j:=h; omega) (fun i hi=>by show 49+i<82; omega) ?_ (fun _=>aY 14 (by kernel_rfl)) ?_ ?_
 ·intro i o hi ho a x D hnd hc hD hb seen K hK;clear HQ;rcases (by omega:i=0\/i=1\/i=2\/i=3\/i=4\/i=5\/i=6\/i=7\/i=8\/i=9\/i=10\/i=11) with rfl|rfl|rfl|rfl|rfl|rfl|rfl|rfl|rfl|rfl|rfl|rfl
  ·cases ho;have e1:a.eval (ak 1)=J (U ⟨b1,0,ah⟩):=seen.kp 1 _ (nd 1 (by omega)) rfl;exact aF rfl rfl (aN a.eval _ 31 (ak 1) 4 rfl (by rw [e1]; simp [go_sem])) (hK _ _ rfl (aj _ _) fun _ _ _ _ _ _ _ h=>h)
  ·cases ho;have e49:a.eval (ak 49)=J (U ⟨b1,4,ah⟩):=seen.at_ ⟨0,.data⟩ (by simp) rfl (aA (by decide));have y4:=(H1.out.on hb).cell 4;simp only [X,Y,Z] at y4;exact aF rfl rfl (aO a.eval _ 28 (ak 49) rfl (by rw [e49]; simp [go_sem,y4])) (hK _ _ rfl (aj _ _) fun _ _ _ _ _ _ _ h=>h)
  ·cases ho;have e4:a.eval (ak 4)=aI aJ (k:Int):=seen.kp 4 _ (nd 4 (by omega)) rfl;exact aF rfl rfl (bf a.eval _ (ak 4) rfl x) (hK _ _ e4 (aj _ _) fun _ _ _ _ _ _ _ h=>h)
  ·cases ho;have e1:a.eval (ak 1)=J (U ⟨b1,0,ah⟩):=seen.kp 1 _ (nd 1 (by omega)) rfl;exact aF rfl rfl (aN a.eval _ 31 (ak 1) 4 rfl (by rw [e1]; simp [go_sem])) (hK _ _ rfl (aj _ _) fun _ _ _ _ _ _ _ h=>h)
  ·cases ho;have e52:a.eval (ak 52)=J (U ⟨b1,4,ah⟩):=seen.at_ ⟨3,.data⟩ (by simp) rfl (aA (by decide));have y4:=(H1.out.on hb).cell 4;simp only [X,Y,Z] at y4;exact aF rfl rfl (aO a.eval _ 28 (ak 52) rfl (by rw [e52]; simp [go_sem,y4])) (hK _ _ rfl (aj _ _) fun _ _ _ _ _ _ _ h=>h)
  ·cases ho;have e4:a.eval (ak 4)=aI aJ (k:Int):=seen.kp 4 _ (nd 4 (by omega)) rfl;exact aF rfl rfl (bf a.eval _ (ak 4) rfl x) (hK _ _ e4 (aj _ _) fun _ _ _ _ _ _ _ h=>h)
  ·cases ho;have e53:a.eval (ak 53)=O (U ⟨g,0,ah⟩) n cap:=seen.at_ ⟨4,.data⟩ (by simp) rfl (aA (by decide));have e54:a.eval (ak 54)=aI aJ (k:Int):=seen.at_ ⟨5,.data⟩ (by simp) rfl (aA (by decide));exact aF rfl rfl (bg a.eval _ 28 (ak 53) (ak 54) rfl (by rw [e53,e54]; exact IX.out x)) (hK _ _ rfl (aj _ _) fun _ _ _ _ _ _ _ h=>h)
  ·cases ho;have e55:a.eval (ak 55)=J (U ⟨g,k * 7,ah⟩):=seen.at_ ⟨6,.data⟩ (by simp) rfl (aA (by decide));exact aF rfl rfl (aN a.eval _ 43 (ak 55) 2 rfl (by rw [e55]; simp [go_sem])) (hK _ _ rfl (aj _ _) fun _ _ _ _ _ _ _ h=>h)
  ·cases ho;have e56:a.eval (ak 56)=J (U ⟨g,k * 7+4,ah⟩):=seen.at_ ⟨7,.data⟩ (by simp) rfl (aA (by decide));have y:=EL.out x hb 4 _ rfl;simp [Addr.add,EN] at y;exact aF rfl rfl (aO a.eval _ 35 (ak 56) rfl (by rw [e56]; simp [go_sem,y])) (hK _ _ rfl (aj _ _) fun _ _ _ _ _ _ _ h=>h)
  ·cases ho;have e57:a.eval (ak 57)=O yo yn yc:=seen.at_ ⟨8,.data⟩ (by simp) rfl (aA (by decide));exact aS rfl rfl (Rw.gT a.eval _ (ak 57) 35 48 rfl e57 rfl _ (eT Try.func48 rfl rfl _ _)) (lU (yo,yn,yc) p x (HP.out.on hb) LP.out) fun e w1 h=>by
    obtain⟨⟨s,rfl,h1⟩,h3⟩:=h;exact⟨_,rfl,hK _ _ ⟨s,rfl,dK h1 hb.size⟩ (h3.mono hb.size) fun j u hj _ _ _ hne h=>mQ j u _ _ h h3⟩
  ·cases ho;have e50:a.eval (ak 50)=O (U ⟨g,0,ah⟩) n cap:=seen.at_ ⟨1,.data⟩ (by simp) rfl (aA (by decide));have e51:a.eval (ak 51)=aI aJ (k:Int):=seen.at_ ⟨2,.data⟩ (by simp) rfl (aA (by decide));exact aF rfl rfl (bg a.eval _ 28 (ak 50) (ak 51) rfl (by rw [e50,e51]; exact IX.out x)) (hK _ _ rfl (aj _ _) fun _ _ _ _ _ _ _ h=>h)
  ·cases ho;have e59:a.eval (ak 59)=J (U ⟨g,k * 7,ah⟩):=seen.at_ ⟨10,.data⟩ (by simp) rfl (aA (by decide));exact aF rfl rfl (aN a.eval _ 43 (ak 59) 2 rfl (by rw [e59]; simp [go_sem])) (hK _ _ rfl (aj _ _) fun _ _ _ _ _ _ _ h=>h)
 ·intro kk o h1 h2 ho;omega
 ·intro a w' df sz kp ⟨vs,hv⟩ hb;have sz':a.tmps.size=82:=sz;have g60:a.tmps[60]?=U (J (U ⟨g,k * 7+4,ah⟩)):=by
   have h:vs 11=J (U ⟨g,k * 7+4,ah⟩):=(hv 11 (by omega)).2 (by decide);rw [<- h];exact (hv 11 (by omega)).1
  obtain⟨⟨s1,s2,s3⟩,hs,hc⟩:=(hv 9 (by omega)).2 (by decide);have g58:a.tmps[58]?=U (O s1 s2 s3):=((hv 9 (by omega)).1).trans (congrArg U hs);rw [hs] at hc;obtain⟨w2,hr,st1,st2,MJ⟩:=Kk (k:=k) s1 s2 s3 (Bk.dB HO.out hb) HY.out;obtain⟨cur,hg⟩:=gu (Bk.dB HO.out hb);show aR _ _ _ 1 12 a w';simp only [aR];refine aT 35 (ak 60) (ak 58) rfl rfl rfl rfl (aL g60) (aL g58) (w':=w2) hr ?_;have uR:∀ j,(j<49\/61<=j)->(a).tmps[j]?=(u0::J (U ⟨b1,0,ah⟩)::u2::u3::aI aJ (k:Int)::u5::u6::u7::u8::u9::u10::u11::u12::u13::u14::u15::u16::u17::u18::u19::u20::u21::u22::u23::u24::u25::u26::u27::u28::u29::u30::u31::u32::u33::u34::u35::u36::u37::u38::u39::u40::u41::u42::u43::u44::u45::u46::u47::u48::u49::u50::u51::u52::u53::u54::u55::u56::u57::u58::u59::u60::u61::u62::u63::u64::u65::u66::u67::u68::u69::u70::u71::u72::u73::u74::u75::u76::u77::u78::u79::u80::u81::[])[j]?:=fun j hj=>(kp j (nd j (by omega))).trans X;obtain⟨mid,hmid,hfr⟩:=aZ (a:=a) 49 12 df (by simp [sz']) (by simp) uR;show Q .normal (a) _;rw [hfr]
  match mid,hmid with
  | [v49,v50,v51,v52,v53,v54,v55,v56,v57,v58,v59,v60],_ =>
   exact HQ.out _ _ _ _ _ _ _ _ _ _ _ _ _ s1 s2 s3 (st2.own hc hg (by decide)) st1 ((But.of_below hb).trans st2) fun B1 hB hl=>MJ B1 W hB (hb.mono hl)
end Av
namespace Wr
open Ytmklifheakemeaa.Nm At Pr
def Dm (c:C5):Bool:=xI c.1 && (if c.2.1=1 then decide (c.2.2.2.2.size=0) && decide (c.2.2.1<=c.2.2.2.1) else if c.2.1=2 then decide (c.2.2.1=0) && (decide (c.2.2.2.1=0) && decide (c.2.2.2.2.size<=12)) else if c.2.1=3 then decide (c.2.2.1=0) && (decide (c.2.2.2.1=0) && decide (c.2.2.2.2.size<=11)) else false)
def MR (p x:C5):Bool:=Op.bytesLess p.1.toList x.1.toList
def F9 (l:List C5) (k:Nat):Bool:=match l[k]? with
 | some x=>Dm x && (k == 0 || (match l[k-1]? with
  | some p=>MR p x
  | none=>aM))
 | none=>aM
def jJ (l:List C5):Bool:=(List.range l.length).all (F9 l) && decide (l.length<=5)
theorem Az (l:List C5) (h:∀ j,j<l.length->F9 l j=aM):jJ l=decide (l.length<=5):=by
 unfold jJ;rw [aP.2 fun j hj=>h j (aQ.1 hj),Bool.true_and]
end Wr
namespace Pr
open Go.RowKit Go.Sort Pu Rw Va
end Pr
namespace SN
open Go.RowKit Go.Sort Rw Ytmklifheakemeaa.Nm At Pr Wr Va
end SN
namespace Rg
open Go.RowKit
structure JE (i N:Nat) (dst:Nat->Option Nat) (last:Nat->Nat) (V:Nat->ay->aD->Prop) (base:aU) (o:Oper) (a:aU) (w:aD):Prop where
 kp:∀ j u,(∀ k,k<N->dst k≠U j)->base.tmps[j]?=U u->a.eval (ak j)=u
 at_:∀ e∈o.after,aC .any e=aM->(last e.on=i\/N<=last e.on)->∀ d,dst e.on=U d->V e.on (a.eval (ak d)) w
 st:∀ e∈o.after,aC .any e=aM->(last e.on=i\/N<=last e.on)->∃ v,V e.on v w
theorem vI (a:aU) (d:Option Nat) (v:ay) (j:Nat) (hj:d≠U j):(a.put d v).tmps[j]?=a.tmps[j]?:=by
 cases d with
 | none=>rfl
 | some d=>exact get_put _ _ _ _ (fun e=>hj (by rw [e]))
theorem Fv (a:aU) (d:Option Nat) (v:ay):(a.put d v).tmps.size=a.tmps.size:=by
 cases d with
 | none=>rfl
 | some d=>exact size_put _ _ _
theorem put_defers (a:aU) (d:Option Nat) (v:ay):(a.put d v).defers=a.defers:=by
 cases d <;> rfl
structure Sw (l:List Oper) (N:Nat) (dst:Nat->Option Nat) (last:Nat->Nat) (V:Nat->ay->aD->Prop) (F:(Nat->Prop)->aD->Prop) (base:aU) (L:Array Bool) (a:aU) (x:aD):Prop where
 cl:∀ i o,done L i->l[i]?=U o->∀ e∈o.after,aC .any e=aM->done L e.on
 df:a.defers=base.defers
 sz:a.tmps.size=base.tmps.size
 kp:∀ j,(∀ i,i<N->dst i≠U j)->a.tmps[j]?=base.tmps[j]?
 fr:F (done L) x
 no:∀ i,N<=i->¬ done L i
 val:∃ vs:Nat->ay,∀ i,i<N->done L i->(∀ d,dst i=U d->a.tmps[d]?=U (vs i))/\(¬ done L (last i)->V i (vs i) x)
end Rg
end Go.Proofs.Ytmklifheakemeaa
