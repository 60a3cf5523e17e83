/-
  A region that draws . Conditions as told.
-/
import Derived.Maps.OwnSet
import Derived.DeepKeys4
import Derived.KernelRfl
import Derived.Test.YtmklifheakemeaaVQ018
import Derived.Test.YtmklifheakemeaaVQ019
set_option maxRecDepth 100000
set_option maxHeartbeats 64000000
open _root_.Bool renaming true->aK,false->aN,and_eq_true->aP,eq_iff_iff->aT
open _root_.Go renaming Value->ak,World->au,Calls->bA
open Go.Ending renaming returned->aO
open Go.IntKind renaming i64->O
open Go.Lib renaming hid->D,compact->Z,compactUpTo->ay
open Go.Obj renaming cells->aA
open Go.Region renaming binds->aI
open Go.Sort renaming ahead->aj
open Go.Value renaming int->J,string->U,slice->aC,bool->aU
open _root_.List renaming getElem?_eq_getElem->ah,length_map->aD,replicate->aJ,getElem?_eq_some_iff->aL,getElem?_map->aM,getElem?_cons_zero->aQ,getElem?_cons_succ->aR,getElem?_toArray->aV,getElem?_take->aY,mem_singleton->aZ,length_append->bf,find?_eq_none->bg
open _root_.Nat renaming le_refl->aG,le_trans->aH,lt_or_ge->aS,mul_le_mul_right->aW,lt_of_lt_of_le->aX,le_of_lt->bq,zero_le->bD
open _root_.Option renaming some->aB,none->aF
namespace Go.Proofs.Ytmklifheakemeaa
namespace Rg
open Go.RowKit Rw Av
structure JH (i N S:Nat) (d last:Nat->Nat) (V:Nat->ak->au->Prop) (base:Act) (o:Oper) (a:Act) (x:au):Prop where
 kp:∀ j u,(∀ i,i<N->d i≠j)->base.tmps[j]?=aB u->a.eval (.tmp j)=u
 at_:∀ e∈o.after,aI .any e=aK->e.on≠S->(last e.on=i\/N<=last e.on)->V e.on (a.eval (.tmp (d e.on))) x
def JI (b:Nat) (W x:au):Prop:=But b W x/\∀ B,B<=b->Below B W x
theorem JI.grow {b:Nat} {W x x':au} (h:JI b W x) (hl:b<W.heap.size) (hb:Below x.heap.size x x'):JI b W x' :=
 ⟨⟨fun k hk hne=>(hb.block k (aX hk h.1.2)).trans (h.1.1 k hk hne),aH h.1.2 hb.size⟩,fun B hB=>(h.2 B hB).trans (hb.mono (aH (aH hB (bq hl)) h.1.2))⟩
structure SK (l:List Oper) (N S C:Nat) (d last:Nat->Nat) (V:Nat->ak->au->Prop) (t:TypeId) (bb:Nat) (old:Array ak) (Ef:ak->Array ak) (base:Act) (W:au) (L:Array Bool) (a:Act) (x:au):Prop where
 cl:∀ i o,done L i->l[i]?=aB o->∀ e∈o.after,aI .any e=aK->done L e.on
 no:∀ i,N<=i->¬ done L i
 df:a.defers=base.defers
 sz:a.tmps.size=base.tmps.size
 kp:∀ j,(∀ i,i<N->d i≠j)->a.tmps[j]?=base.tmps[j]?
 OV:JI bb W x
 val:∃ vs:Nat->ak,∀ i,i<N->i≠S->done L i->a.tmps[d i]?=aB (vs i)/\(¬ done L (last i)->V i (vs i) x)
 box:¬ done L S->Below W.heap.size W x/\dH x bb old t
 fin:done L S->∃ v,a.tmps[d C]?=aB v/\dH x bb (Ef v) t/\V C v x
theorem vL {P:Program} {Q:Exit->Act->au->Prop} {id:Nat} {base:Act} {W:au} {l:List Oper} (N S C:Nat) (d last:Nat->Nat) (V:Nat->ak->au->Prop) (fl:Nat->Bool) (t:TypeId) (bb:Nat) (old:Array ak) (Ef:ak->Array ak)
  (hm:P.follows .mixedOrders=aK) (hf:xA l.toArray=aK) (hN:l.length=N) (hS:S<N) (hC:C<N) (hCS:C≠S) (Mx:N<=last C) (eP:dH W bb old t)
  (hinj:∀ i j,i<N->j<N->i≠S->j≠S->d i=d j->i=j) (hs:∀ i,i<N->i≠S->d i<base.tmps.size)
  (hV:∀ i v x x',i<N->V i v x->Below x.heap.size x x'->V i v x')
  (hfl:∀ o,l[S]?=aB o->∀ i,i<N->i≠S->fl i=aN->∃ e∈o.after,aI .any e=aK/\e.on=i) (MP:fl C=aN)
  (hop:∀ i o,i<N->i≠S->l[i]?=aB o->∀ a x,(fl i=aN->Below W.heap.size W x/\dH x bb old t)->JH i N S d last V base o a x->∀ K:Act->au->Prop,(∀ v x',V i v x'->Below x.heap.size x x'->K (a.put (aB (d i)) v) x')->wpOp P l.toArray Q i K a x)
  (Pg:∀ o,l[S]?=aB o->∀ a x v,Below W.heap.size W x->dH x bb old t->a.eval (.tmp (d C))=v->V C v x->(∀ j u,base.tmps[j]?=aB u->(∀ i,i<N->d i≠j)->a.eval (.tmp j)=u)->∀ K:Act->au->Prop,(∀ x',But bb x x'->(∀ B w,B<=bb->Below B w x->Below B w x')->dH x' bb (Ef v) t->(∀ j u,j<N->j≠S->N<=last j->V j u x->V j u x')->K a x')->wpOp P l.toArray Q S K a x)
  (hlast:∀ j,j<N->j≠S->N<=last j\/(last j<N/\last j≠S/\fl (last j)=aN))
  (hend:∀ a x v,a.defers=base.defers->a.tmps.size=base.tmps.size->(∀ j,(∀ i,i<N->d i≠j)->a.tmps[j]?=base.tmps[j]?)->a.tmps[d C]?=aB v->dH x bb (Ef v) t->V C v x->JI bb W x->(∃ vs:Nat->ak,∀ i,i<N->i≠S->a.tmps[d i]?=aB (vs i)/\(N<=last i->V i (vs i) x))->Q .normal a x):(Code.region id l.toArray aK).wp P Q base W:=by
 have hbl:bb<W.heap.size:=eP.lt;refine jO (fun L a x=>SK l N S C d last V t bb old Ef base W L a x) hm hf ?_ ?_ ?_
 ·exact⟨fun i o h=>absurd h (fG _ _),fun i _=>fG _ _,rfl,rfl,fun _ _=>rfl,⟨⟨fun _ _ _=>rfl,aG _⟩,fun B hB=>(Below.refl _ _).drew⟩,⟨fun _=>.bool aK,fun i _ _ h=>absurd h (fG _ _)⟩,fun _=>⟨(Below.refl _ _).drew,eP⟩,fun h=>absurd h (fG _ _)⟩
 ·intro L a x i o hsz I ho hnd ji;have hi:i<l.length:=(aL.1 ho).1;have Ic:i<N:=by omega
  have qz:i<L.size:=by omega
  obtain⟨vs,hvs⟩:=I.val;obtain⟨oS,xM⟩:∃ oS,l[S]?=aB oS:=⟨_,ah (by omega)⟩;have hon:∀ e∈o.after,aI .any e=aK->e.on<i:=fun e he hb=>by
   have h7:=List.all_eq_true.1 hf i (List.mem_range.2 (by simpa using hi));have ho':(l.toArray)[i]?=aB o:=by simpa using ho
   rw [ho'] at h7;have h8:=Array.all_eq_true'.1 h7 e he;rw [hb] at h8;simpa using h8
  have dd:∀ {k},k≠i->done (L.setIfInBounds i aK) k->done L k:=fun {k} h h5=>((eX qz k).1 h5).resolve_left h;have du:∀ {k},done L k->done (L.setIfInBounds i aK) k:=fun {k} h=>(eX qz k).2 (Or.inr h);have cl':∀ k q,done (L.setIfInBounds i aK) k->l[k]?=aB q->∀ e∈q.after,aI .any e=aK->done (L.setIfInBounds i aK) e.on:=fun k q hk hq e he hb=>by
   by_cases e2:k=i
   ·subst e2;rw [hq] at ho;cases ho;exact du (ji e he hb)
   ·exact du (I.cl k q (dd e2 hk) hq e he hb)
  have no':∀ k,N<=k->¬ done (L.setIfInBounds i aK) k:=fun k hk h=>I.no k hk (dd (by omega) h);have early:∀ k,k<N->k≠S->fl k=aN->¬ done L k->¬ done L S:=fun k hk uQ Kq hnk SL=>by
   obtain⟨e,h1,h2,h3⟩:=hfl oS xM k hk uQ Kq;exact hnk (h3 ▸ I.cl S oS SL xM e h1 h2)
  by_cases qC:i=S
  ·subst qC;have dC:done L C:=by
    obtain⟨e,h1,h2,h3⟩:=hfl o ho C hC hCS MP;exact h3 ▸ ji e h1 h2
   obtain⟨v1,v2⟩:=hvs C hC hCS dC;have vC:=v2 (I.no _ Mx);obtain⟨b1,b2⟩:=I.box hnd;refine Pg o ho a x (vs C) b1 b2 (dF v1) vC (fun j u hu hj=>dF (by rw [I.kp j hj]; exact hu)) _ (fun x' q1 q2 q3 q4=>⟨cl',no',I.df,I.sz,I.kp,⟨⟨fun k hk hne=>(q1.1 k (aX hk b1.size) hne).trans (I.OV.1.1 k hk hne),aH b1.size q1.2⟩,fun B hB=>q2 B W hB (I.OV.2 B hB)⟩,⟨vs,fun k hk uQ hdn=>?_⟩,fun hn=>absurd ((eX qz _).2 (Or.inl rfl)) hn,fun _=>⟨vs C,v1,q3,?_⟩⟩)
   ·obtain⟨w1,w2⟩:=hvs k hk uQ (dd uQ hdn);refine⟨w1,fun hnl=>?_⟩;rcases hlast k hk uQ with h5|⟨h5,h6,h7⟩
    ·exact q4 k _ hk uQ h5 (w2 (I.no _ h5))
    ·exfalso;obtain⟨e,g1,g2,g3⟩:=hfl o ho (last k) h5 h6 h7;exact hnl (du (g3 ▸ ji e g1 g2))
   ·exact q4 C _ hC hCS Mx vC
  ·have seen:JH i N S d last V base o a x:=⟨fun j u hj hu=>dF (by rw [I.kp j hj]; exact hu),fun e he hb hS' hl=>by
    obtain⟨h1,h2⟩:=hvs e.on (by have:=hon e he hb; omega) hS' (ji e he hb);rw [dF h1];refine h2 ?_;rcases hl with hl|hl
    ·rw [hl]; exact hnd
    ·exact I.no _ hl⟩
   refine hop i o Ic qC ho a x (fun hfi=>I.box (early i Ic qC hfi hnd)) seen _ (fun v x' hpv hb=>?_);have self:(a.put (aB (d i)) v).tmps[d i]?=aB v:=by
    have h5:d i<a.tmps.size:=by rw [I.sz]; exact hs i Ic qC
    simp [Act.put,h5]
   have keep:∀ k,k<N->k≠S->k≠i->(a.put (aB (d i)) v).tmps[d k]?=a.tmps[d k]?:=fun k hk uQ hki=>get_put _ _ _ _ (fun e=>hki (hinj _ _ hk Ic uQ qC e));refine⟨cl',no',I.df,by rw [size_put]; exact I.sz,fun j hj=>?_,I.OV.grow hbl hb,⟨fun k=>if k=i then v else vs k,fun k hk uQ hdn=>?_⟩,fun h2=>?_,fun h1=>?_⟩
   ·rw [get_put _ _ _ _ (fun e=>hj i Ic e.symm)];exact I.kp j hj
   ·by_cases e:k=i
    ·subst e;simp only [if_true];exact⟨self,fun _=>hpv⟩
    ·simp only [if_neg e];obtain⟨h3,h4⟩:=hvs k hk uQ (dd e hdn);exact⟨by rw [keep k hk uQ e]; exact h3,fun h6=>hV k _ _ _ hk (h4 (fun h=>h6 (du h))) hb⟩
   ·obtain⟨b1,b2⟩:=I.box (fun h=>h2 (du h));exact⟨b1.trans (hb.mono b1.size),b2.on hb⟩
   ·have h2:=dd (Ne.symm qC) h1;obtain⟨u,h6,h8,h9⟩:=I.fin h2;obtain⟨ec,k4,k5,k6⟩:=hfl oS xM C hC hCS MP;have dC:=I.cl S oS h2 xM ec k4 k5;rw [k6] at dC;have eC:C≠i:=fun e=>hnd (e ▸ dC);exact⟨u,by rw [keep C hC hCS eC]; exact h6,h8.on hb,hV C _ _ _ hC h9 hb⟩
 ·intro L a x I hd;have dS:=hd S (by omega);obtain⟨v,h2,h4,h5⟩:=I.fin dS;obtain⟨vs,hvs⟩:=I.val;exact hend a x v I.df I.sz I.kp h2 h4 h5 I.OV ⟨vs,fun i hi qC=>by
   obtain⟨k1,k2⟩:=hvs i hi qC (hd i (by omega));exact⟨k1,fun hl=>k2 (I.no _ hl)⟩⟩
end Rg
namespace Av
open Go.RowKit Rw Ytmklifheakemeaa.Nm Pr Bk Go.Sort
theorem Fq {α:Type} [Inhabited α] (enc:α->ak) (d:Array α) (cur:Array ak) (h:d.size<=cur.size):(putCells enc 0 d cur).toList.take d.size=d.toList.map enc:=by
 apply List.ext_getElem?;intro j;rw [aY];by_cases hj:j<d.size
 ·have hc:j<cur.size:=by omega
  simp [putCells,hj,hc]
 ·simp [hj]
theorem sj {α β:Type} [Inhabited β] {E:Ek α} (K:E.Ok) {w:au} {B g cap:Nat} {l l':List α} (h:Own E w B (aC (aB ⟨g,0,aF⟩) l.length cap) l) (enc:β->ak) (d:Array β) (hd:d.toList.map enc=flat E l') (hl:l'.length=l.length) (n:Nat) (os:Array Obj) :
  Own E (grow (putRow enc (aj w n) g 0 d) os) B (aC (aB ⟨g,0,aF⟩) l.length cap) l'/\w.grownBy (grow (putRow enc (aj w n) g 0 d) os) (aB g):=by
 have hds:d.size=l.length * E.n:=by
  rw [<- hl,<- dG K l',<- hd];simp
 rcases fD h with⟨e,_⟩|⟨g',cap',cur,e,h1,h2,h3,h4,h5,h6⟩
 ·cases e
 obtain⟨rfl,rfl⟩:g=g'/\cap=cap':=by simpa using e
 have hlt:=lt_of_heap h2;have hb:(grow (putRow enc (aj w n) g 0 d) os).heap[g]?=aB (aA (putCells enc 0 d cur) E.t (0,0)):=by
  rw [heap_grow_old _ _ (by simp [putRow,mapBlock,aj]; exact hlt)];unfold dH at h2;simp only [putRow,mapBlock,aj,Array.getElem?_modify,if_true,h2]
  rfl
 have hfit:d.size<=cur.size:=by
  rw [hds,h5];exact aW _ h3
 refine⟨⟨by rw [dG K],Or.inr ⟨g,cap,_,by rw [hl],h1,hb,by rw [hl]; exact h3,h4,by simp [putCells]; exact h5,?_⟩⟩,⟨rfl,rfl,rfl,by simp [putRow,mapBlock,aj],fun k hk hne=>?_⟩⟩
 ·rw [hl,<- hds,Fq enc d cur hfit,hd]
 ·rw [heap_grow_old _ _ (by simp [putRow,mapBlock,aj]; exact hk)];have hkg:g≠k:=fun e=>hne (by rw [e]);simp [putRow,mapBlock,aj,Array.getElem?_modify,hkg]
theorem vH {α:Type} {E:Ek α} {w:au} {B g cap:Nat} {l:List α} (K:E.Ok) {β:Type} [Inhabited β] (enc:β->ak) (d:Array β) (hd:d.toList.map enc=flat E l) (h:Own E w B (aC (aB ⟨g,0,aF⟩) l.length cap) l):Holds enc w g 0 d/\g<w.heap.size:=by
 rcases fD h with⟨e,_⟩|⟨g',cap',cur,e,h1,h2,h3,h4,h5,h6⟩
 ·cases e
 obtain⟨rfl,rfl⟩:g=g'/\cap=cap':=by simpa using e
 refine⟨fun j hj=>?_,h2.lt⟩;rw [Nat.zero_add];refine⟨?_,h2.fr j⟩;rw [h2.cell j];have hsz:d.size=l.length * E.n:=by
  rw [<- dG K l,<- hd];simp
 have h7:(cur.toList.take (l.length * E.n))[j]?=(d.toList.map enc)[j]?:=by rw [h6,hd]
 rw [aY,if_pos (by omega)] at h7;rw [Array.getElem?_toList] at h7;rw [h7,aM,Array.getElem?_toList,getElem!_pos d j hj,Array.getElem?_eq_getElem hj]
 rfl
theorem Db (w:au) (B:Nat) (v:ak) (l:List Int) (h:rO w B v l) (hlen:l.length<=900):bA Try.prog 26 #[v] w fun e w'=>e=aO (.tuple #[])/\∃ l':List Int,rO w' B v l'/\l'.Perm l/\l'.Pairwise (·<=·)/\w.grownBy w' v.ownBlock:=by
 rcases fD h with⟨rfl,rfl⟩|⟨g,cap,cur,rfl,h1,h2,h3,h4,h5,h6⟩
 ·have hc:=Any.slices_Sort_int_none Try.sortI aF 0 w;refine Calls.mono hc ?_;rintro e w' ⟨rfl,rfl⟩;exact⟨rfl,[],h,List.Perm.refl _,List.Pairwise.nil,Rw.oJ _ _⟩
 ·obtain⟨hh,hlt⟩:=vH Nm.Il (J O) l.toArray (by rw [xE]) h;have hc:=Any.slices_Sort_int Try.sortI g 0 cap l w hh hlt (by omega);refine Calls.mono hc ?_;rintro e w' ⟨rfl,n,os,rfl⟩;have hs:=sj Nm.Il (l':=l.mergeSort fun x y=>decide (x<=y)) h (J O) (l.mergeSort fun x y=>decide (x<=y)).toArray (by rw [xE]) (List.length_mergeSort l) n os;refine⟨rfl,_,hs.1,List.mergeSort_perm _ _,?_,hs.2⟩;have hp:=List.pairwise_mergeSort (le:=fun x y:Int=>decide (x<=y)) (fun a b c h1 h2=>by simp at h1 h2 ⊢; omega) (fun a b=>by simp; omega) l;exact hp.imp (fun {a b} hab=>by simpa using hab)
theorem xP (d:Array Int) (n:Nat) (hs:∀ i j,i<=j->j<n->d[i]!<=d[j]!):∀ m,m<=n->(∀ x∈ay d m,∃ j,j<m/\d[j]! = x)/\(∀ j,j<m->d[j]!∈ay d m)/\(ay d m).Pairwise (·<·)
 | 0,_=>⟨fun x h=>by simp [ay] at h,fun j h=>by omega,by simp [ay]⟩
 | m+1,hm=>by
  obtain⟨h1,h2,h3⟩:=xP d n hs m (by omega);rw [Lib.compactUpTo_succ];cases hk:Lib.keeps d m with
  | false =>
   simp only [Bool.false_eq_true,if_false,List.append_nil];have hk':m≠0/\d[m]! = d[m-1]!:=by
    have h:=of_decide_eq_false hk;rw [not_or] at h;exact⟨h.1,Classical.not_not.1 h.2⟩
   refine⟨fun x hx=>?_,fun j hj=>?_,h3⟩
   ·obtain⟨j,hj,e⟩:=h1 x hx;exact⟨j,by omega,e⟩
   ·rcases aS j m with h|h
    ·exact h2 j h
    ·obtain rfl:j=m:=by omega
     rw [hk'.2];exact h2 _ (by omega)
  | true =>
   simp only [if_true];have hk':m=0\/d[m]!≠d[m-1]!:=of_decide_eq_true hk;refine⟨fun x hx=>?_,fun j hj=>?_,?_⟩
   ·rcases List.mem_append.1 hx with h|h
    ·obtain⟨j,hj,e⟩:=h1 x h;exact⟨j,by omega,e⟩
    ·exact⟨m,by omega,(aZ.1 h).symm⟩
   ·rcases aS j m with h|h
    ·exact List.mem_append_left _ (h2 j h)
    ·obtain rfl:j=m:=by omega
     exact List.mem_append_right _ (by simp)
   ·rw [List.pairwise_append];refine⟨h3,List.pairwise_singleton _ _,fun a ha b hb=>?_⟩;obtain⟨j,hj,rfl⟩:=h1 a ha;rw [aZ.1 hb];have a1:=hs j (m-1) (by omega) (by omega);have a2:=hs (m-1) m (by omega) (by omega);rcases hk' with h|h
    ·omega
    ·omega
theorem Ap (l:List Int) (hs:l.Pairwise (·<=·)):(Z l).Pairwise (·<·)/\(∀ x,x∈Z l↔x∈l)/\(Z l).length<=l.length:=by
 have hd:∀ i j,i<=j->j<l.length->l.toArray[i]!<=l.toArray[j]!:=by
  intro i j hij hj;rw [getElem!_pos l.toArray i (by simp; omega),getElem!_pos l.toArray j (by simpa using hj)];rcases aS i j with h|h
  ·have:=List.pairwise_iff_getElem.1 hs i j (by omega) hj h;simpa using this
  ·obtain rfl:i=j:=by omega
   exact Int.le_refl _
 obtain⟨h1,h2,h3⟩:=xP l.toArray l.length hd l.length (aG _);refine⟨h3,fun x=>⟨fun hx=>?_,fun hx=>?_⟩,?_⟩
 ·obtain⟨j,hj,rfl⟩:=h1 x hx;rw [getElem!_pos l.toArray j (by simpa using hj)];simp
 ·obtain⟨j,hj,rfl⟩:=List.mem_iff_getElem.1 hx;have:=h2 j hj;rw [getElem!_pos l.toArray j (by simpa using hj)] at this;simpa [Z] using this
 ·unfold Z ay;rw [aD];exact aH (List.length_filter_le _ _) (by simp)
theorem Fu (w:au) (B:Nat) (v:Sl) (l:List Int) (h:rO w B (dR v) l) (hs:l.Pairwise (·<=·)) (hlen:l.length<=900):bA Try.prog 27 #[dR v] w fun e w'=>(∃ v':Sl,e=aO (dR v')/\∃ l':List Int,rO w' B (dR v') l'/\l'.Pairwise (·<·)/\∀ x,x∈l'↔x∈l)/\w.grownBy w' (dR v).ownBlock:=by
 obtain⟨vo,vn,vc⟩:=v;rcases fD h with⟨h0,rfl⟩|⟨g,cap,cur,h0,h1,h2,h3,h4,h5,h6⟩
 ·obtain⟨rfl,rfl,rfl⟩:vo=aF/\vn=0/\vc=0:=by simpa using h0
  have hc:=Any.slices_Compact_int_empty Try.cptI aF 0 w;refine Calls.mono hc ?_;rintro e w' ⟨rfl,rfl⟩;exact⟨⟨(aF,0,0),rfl,[],h,List.Pairwise.nil,fun _=>Iff.rfl⟩,Rw.oJ _ _⟩
 ·obtain⟨rfl,rfl,rfl⟩:vo=aB ⟨g,0,aF⟩/\vn=l.length/\vc=cap:=by simpa using h0
  obtain⟨hh,hlt⟩:=vH Nm.Il (J O) l.toArray (by rw [xE]) h;have hc:=Any.slices_Compact_int Try.cptI g 0 vc l w hh (by omega) h3;obtain⟨c1,c2,c3⟩:=Ap l hs;refine Calls.mono hc ?_;rintro e w' ⟨rfl,n,rfl⟩;have ht:=sj Nm.Il (l':=Z l++aJ (l.length-(Z l).length) 0) h (J O) (Z l++aJ (l.length-(Z l).length) 0).toArray (by rw [xE]) (by rw [bf,List.length_replicate]; omega) n #[];have hg:grow (putRow (J O) (aj w n) g 0 (Z l++aJ (l.length-(Z l).length) 0).toArray) #[]=putRow (J O) (aj w n) g 0 (Z l++aJ (l.length-(Z l).length) 0).toArray:=grow_empty _;rw [hg] at ht;refine⟨⟨(aB ⟨g,0,aF⟩,(Z l).length,vc),rfl,Z l,?_,c1,c2⟩,ht.2⟩;rcases fD ht.1 with⟨e,_⟩|⟨g',cap',cur',e,k1,k2,k3,k4,k5,k6⟩
  ·cases e
  ·obtain⟨rfl,_,rfl⟩:g=g'/\l.length=_/\vc=cap':=by simpa using e
   refine lC Nm.Il rfl k1 k2 (aH c3 h3) k4 k5 ?_;have k7:=congrArg (List.take ((Z l).length * EI.n)) k6;rw [List.take_take,lD Nm.Il,Nat.min_eq_left (aW _ (by rw [bf]; omega)),List.take_left'] at k7
   ·exact k7
   ·rfl
end Av
namespace Av
open Go.RowKit Rw Bk Go.Maps Go.ChangeMaps
end Av
namespace Rl
open Go.RowKit Pu Pr
def Ig (p:List Cn) (n:ByteArray):Option Cn:=p.find? fun c=>decide (c.1=n)
theorem F4 {p:List Cn} {n:ByteArray} {y:Cn} (h:Ig p n=aB y):y∈p/\y.1=n:=⟨List.mem_of_find?_eq_some h,by simpa using List.find?_some h⟩
theorem MQ {p:List Cn} {n:ByteArray} {k:Nat} {y:Cn} (hk:p[k]?=aB y) (he:y.1=n) (hn:∀ (j:Nat) (z:Cn),j<k->p[j]?=aB z->z.1≠n):Ig p n=aB y:=by
 unfold Ig;rw [List.find?_eq_some_iff_getElem];obtain⟨hlt,hy⟩:=aL.1 hk;refine⟨by simpa using he,k,hlt,hy,fun j hj=>?_⟩;have:=hn j p[j] hj (ah (by omega));simpa using this
theorem I7 {p:List Cn} {n:ByteArray} (hn:∀ (j:Nat) (z:Cn),j<p.length->p[j]?=aB z->z.1≠n):Ig p n=aF:=by
 unfold Ig;rw [bg];intro x hx;obtain⟨j,hj,e⟩:=List.getElem_of_mem hx;have:=hn j x hj (by rw [ah hj,e]);simpa using this
def Aq (b:List Cn) (x:Cn):Bool:=match Ig b x.1 with
 | some y=>gF y.2 x.2
 | none=>aN
theorem Dk {a b:List Cn} (hb:vB b):kR a b=a.all (Aq b):=by
 unfold kR
 congr 1
 funext x
 unfold Aq;cases hf:Ig b x.1 with
 | none =>
  rw [List.any_eq_false];intro y hy;have:=bg.1 hf y hy;simp only [decide_eq_true_eq] at this;simp [this]
 | some y =>
  obtain⟨h1,h2⟩:=F4 hf;rw [aT,List.any_eq_true];constructor
  ·rintro⟨z,hz,h3⟩;simp only [aP,decide_eq_true_eq] at h3;rw [Mw hb h1 hz (h2.trans h3.1.symm)];exact h3.2
  ·intro h3;exact⟨y,h1,by simp [h2,h3]⟩
theorem Au {n:ByteArray} {c d k:Kd} (hc:gB c=aK) (hd:gB d=aK) (h:gD c d=aB k):EH (r5 (n,k)) (r5 (n,d))=gF d c:=by
 obtain⟨k1,k2⟩:=CF c d k hc hd h;rw [aT,EK];constructor
 ·intro e;have e2:=Kn e;obtain rfl:k=d:=congrArg Prod.snd e2;exact uP k c hd fun v hv=>by rw [k2,aP] at hv; exact hv.1
 ·intro hi;have:k=d:=Ae k d k1 hd fun v=>by
   rw [k2,aT,aP];exact⟨fun h=>h.2,fun h=>⟨oF d c hi v h,h⟩⟩
  rw [this]
theorem Aw {c d:Kd} (hd:gB d=aK) (h:gD c d=aF):gF d c=aN:=by
 rw [Bool.eq_false_iff];intro hi;obtain⟨v,hv⟩:=Ac d hd;have:=CG c d h v;rw [hv,oF d c hi v hv] at this;cases this
/-! ### samples -/
/-! ### both together -/
end Rl
namespace Rl
open Go.RowKit Go.Sort Pu Rw Pr Va
abbrev z5:C5:=(⟨#[]⟩,0,0,0,⟨#[]⟩)
def Kr:Option Cn->ak
 | some y=>.tuple #[cv (r5 y),aU aK]
 | none=>.tuple #[cv z5,aU aN]
theorem qJ (pv:ak) (p:List Cn) (n:ByteArray) (w:au) (hp:iy w pv (p.map r5)) (_h100:p.length<=100) :
  bA Try.prog 40 #[pv,U n] w fun e w'=>e=aO (Kr (Ig p n))/\Below w.heap.size w w':=by
 have HP:=D hp;obtain⟨ao,ac,rfl⟩:=hp.len;rw [aD] at HP ⊢;generalize hm:p.length=m at *;have HM:=D hm;clear hp hm;have B0:=D (show Below w.heap.size w (w.alloc (aA #[U ⟨#[]⟩,J O 0,J O 0,J O 0,U ⟨#[]⟩] 56)) from (Below.refl _ _).alloc (aG _) _);have Z0:=D (show dH (w.alloc (aA #[U ⟨#[]⟩,J O 0,J O 0,J O 0,U ⟨#[]⟩] 56)) w.heap.size (cells5 z5).toArray 56 from dO w _ _);go_enter Try.func40,Try.ntmps40;go_wp2;generalize w.alloc (aA #[U ⟨#[]⟩,J O 0,J O 0,J O 0,U ⟨#[]⟩] 56)=w1 at B0 Z0 ⊢
 go_loopw [10] (fun i wr=>∃ k:Nat,k<=m/\i=J O k/\Below w.heap.size w wr/\dH wr w.heap.size (cells5 z5).toArray 56/\∀ (j:Nat) (y:Cn),j<k->p[j]?=aB y->y.1≠n) (fun i _=>m-(intOf i).toNat)
 case atStart=>exact⟨0,bD _,rfl,B0.out,Z0.out,fun j y h=>by omega⟩
 case round =>
  obtain⟨k,hk,rfl,hb,ht,hall⟩:=hrel;have HB:=D hb;have HT:=D ht;have AL:=D hall;clear hb hall ht;by_cases hlt:k<m
  ·obtain⟨⟨xn,xk⟩,hx⟩:∃ x,p[k]?=aB x:=⟨_,ah (by rw [HM.out]; exact hlt)⟩;obtain⟨q,ix,px⟩:=Q0 (x:=r5 (xn,xk)) HP.out rfl (by rw [aD]; exact HM.out) (by rw [aM,hx]; rfl);obtain⟨p0,p1,p2,p3,p4⟩:=px _ HB.out;have HX:=D hx;have B4:=D (HB.out.alloc HB.out.size (aA #[U xn,J O (kN xk),J O (mE xk),J O (mF xk),U (kT xk)] 56));have T4:=D (HT.out.more (aA #[U xn,J O (kN xk),J O (mE xk),J O (mF xk),U (kT xk)] 56));clear hx px;simp only [r5] at p0 p1 p2 p3 p4;by_cases he:xn=n
   ·have hn:(xn.toList == n.toList)=aK:=by rw [he]; exact beq_self_eq_true _
    have R:=D (MQ HX.out he AL.out);clear he;obtain⟨c0,c1,c2,c3,c4⟩:=gH HT.out;have f0:=HT.out.fr 0;have f1:=HT.out.fr 1;have f2:=HT.out.fr 2;have f3:=HT.out.fr 3;have f4:=HT.out.fr 4;have Px:=HT.out.lt;simp only at c0 c1 c2 c3 c4;go_wp2;have T5:=(vK HT.out (xn,kN xk,mE xk,mF xk,kT xk)).more (aA #[U xn,J O (kN xk),J O (mE xk),J O (mF xk),U (kT xk)] 56);have B5:=(iX HB.out w.heap.size (aG _) (U xn) (J O (kN xk)) (J O (mE xk)) (J O (mF xk)) (U (kT xk))).alloc (iX HB.out w.heap.size (aG _) (U xn) (J O (kN xk)) (J O (mE xk)) (J O (mF xk)) (U (kT xk))).size (aA #[U xn,J O (kN xk),J O (mE xk),J O (mF xk),U (kT xk)] 56);generalize World.alloc _ (aA #[U xn,J O (kN xk),J O (mE xk),J O (mF xk),U (kT xk)] 56)=w6 at T5 B5 ⊢;obtain⟨d0,d1,d2,d3,d4⟩:=gH T5;simp only at d0 d1 d2 d3 d4;refine bodyPost_ret (v:=Kr (aB (xn,xk))) (by simp [results,Try.results40,go_sem,d0,d1,d2,d3,d4,Kr,r5]) rfl ⟨by rw [R.out],B5⟩
   ·have hn:(xn.toList == n.toList)=aN:=by rw [beq_eq_false_iff_ne]; exact fun h=>he (rP h)
    have HE:=D he;clear he;go_wp2
    go_roundw
    case rel=>exact⟨k+1,by omega,by go_num,B4.out,T4.out,fun j y hj hy=>by
     rcases aS j k with h3|h3
     ·exact AL.out j y h3 hy
     ·obtain rfl:j=k:=by omega
      have e:=HX.out;rw [hy] at e;rw [Option.some.inj e];exact HE.out⟩
    case measure=>simp [intOf]; omega
  ·obtain rfl:k=m:=by omega
   have R:=D (I7 (p:=p) (n:=n) (fun j y hj hy=>AL.out j y (by rw [<- HM.out]; exact hj) hy));obtain⟨c0,c1,c2,c3,c4⟩:=gH HT.out;have f0:=HT.out.fr 0;have f1:=HT.out.fr 1;have f2:=HT.out.fr 2;have f3:=HT.out.fr 3;have f4:=HT.out.fr 4;have Px:=HT.out.lt;simp only at c0 c1 c2 c3 c4;go_wp2;have T5:=vK HT.out z5;have B5:=iX HB.out w.heap.size (aG _) (U ⟨#[]⟩) (J O 0) (J O 0) (J O 0) (U ⟨#[]⟩);simp only at T5;generalize World.setCell _ _ (U ⟨#[]⟩)=w6 at T5 B5 ⊢;obtain⟨d0,d1,d2,d3,d4⟩:=gH T5;simp only at d0 d1 d2 d3 d4;refine bodyPost_ret (v:=Kr aF) (by simp [results,Try.results40,go_sem,d0,d1,d2,d3,d4,Kr]) rfl ⟨by rw [R.out],B5⟩
theorem Dl (n:ByteArray) (c d:Kd) (w:au) (hc:gB c=aK) (hd:gB d=aK) :
  bA Try.prog 41 #[cv (r5 (n,c)),cv (r5 (n,d))] w fun e w'=>e=aO (aU (gF d c))/\Below w.heap.size w w':=by
 obtain⟨ba,bb,hb⟩:=FK w (r5 (n,c)) (r5 (n,d));have BB:=D bb;have B:=D hb;have CB:=D (FZ (n,c) (n,d) ((w.alloc (aA (cells5 (r5 (n,c))).toArray 56)).alloc (aA (cells5 (r5 (n,d))).toArray 56)) rfl);have WS:=D (fun k (h:gD c d=aB k)=>Au (n:=n) hc hd h);have WN:=D (fun (h:gD c d=aF)=>Aw hd h);simp only at CB;generalize gD c d=r at *;generalize gF d c=i at *;clear ba bb hb hc hd;simp only [r5] at CB ⊢;go_enter Try.func41,Try.ntmps41;go_wp2_with fail;refine CB.out.mono ?_;rintro e w2 ⟨⟨y,rfl,hy⟩,hb2⟩;have B2:=D (B.out.trans (hb2.mono B.out.size));obtain⟨b0,b1,b2,b3,b4⟩:=gH (BB.out.on hb2);simp only [r5] at b0 b1 b2 b3 b4;have B3:=D (B2.out.alloc B2.out.size (aA #[U y.1,J O y.2.1,J O y.2.2.1,J O y.2.2.2.1,U y.2.2.2.2] 56));have HY:=D hy;have hw2:w.heap.size+1<w2.heap.size:=by have:=hb2.size; simp at this; omega
 clear hb2 CB BB B hy;rcases r with _|k
 ·have E:=D (WN.out rfl);clear WN WS;go_wp2;go_ret;exact⟨fZ E.out.symm,B3.out⟩
 ·have E:=D (show EH y (r5 (n,d))=i by rw [HY.out k rfl]; exact WS.out k rfl);obtain⟨y0,y1,y2,y3,y4⟩:=y;clear WN WS HY B3;go_wp2
  all_goals go_ret
  all_goals exact⟨fZ (by rw [<- E.out]; simp [EH,r5, *]),B2.out.alloc B2.out.size _⟩
theorem I8 {α:Type} (f:α->Bool) (l:List α) (m:Nat) (h:l.length=m):(l.take m).all f=l.all f:=by rw [<- h,List.take_length]
theorem Ay (pv qv:ak) (p b:List Cn) (w:au) (hp:iy w pv (p.map r5)) (hl:iy w qv (b.map r5)) (np:NF p) (nb:NF b) :
  bA Try.prog 15 #[pv,qv] w fun e w'=>e=aO (aU (kR p b))/\Below w.heap.size w w':=by
 have CO:=D (Dk (a:=p) nb.rise);have HP:=D hp;have HL:=D hl;have h5:b.length<=100:=by have:=nb.five; omega
 have GP:=D np.gB;have GB:=D nb.gB;have m5:p.length<=5:=np.five;obtain⟨ao,ac,rfl⟩:=hp.len;rw [aD] at HP ⊢;generalize hm:p.length=m at *;have HM:=D hm;generalize kR p b=r at *;clear hp hl hm np nb;go_enter Try.func15,Try.ntmps15;go_wp2
 go_loopw [11] (fun i wr=>∃ k:Nat,k<=m/\i=J O k/\Below w.heap.size w wr/\(p.take k).all (Aq b)=aK) (fun i _=>m-(intOf i).toNat)
 case atStart=>exact⟨0,bD _,rfl,Below.refl _ _,rfl⟩
 case round =>
  obtain⟨k,hk,rfl,hb,hall⟩:=hrel;have HB:=D hb;have AL:=D hall;clear hb hall;by_cases hlt:k<m
  ·obtain⟨⟨xn,xk⟩,hx⟩:∃ x,p[k]?=aB x:=⟨_,ah (by rw [HM.out]; exact hlt)⟩;obtain⟨q,ix,px⟩:=Q0 (x:=r5 (xn,xk)) HP.out rfl (by rw [aD]; exact HM.out) (by rw [aM,hx]; rfl);obtain⟨p0,p1,p2,p3,p4⟩:=px _ HB.out;have MO:=D (Fw (Aq b) p k (xn,xk) hx);have NO:=D (fun h=>IL (Aq b) p k (xn,xk) hx h);have GX:=D (GP.out _ (List.mem_of_getElem? hx));have BX:=D (show dH (wr.alloc (aA #[U xn,J O (kN xk),J O (mE xk),J O (mF xk),U (kT xk)] 56)) wr.heap.size (cells5 (xn,kN xk,mE xk,mF xk,kT xk)).toArray 56 from dO wr _ _);have B1:=D (HB.out.alloc HB.out.size (aA #[U xn,J O (kN xk),J O (mE xk),J O (mF xk),U (kT xk)] 56));have G:=D (qJ qv b xn (wr.alloc (aA #[U xn,J O (kN xk),J O (mE xk),J O (mF xk),U (kT xk)] 56)) (HL.out.on B1.out) h5);have GC:=D (show Aq b (xn,xk)=match Ig b xn with
    | some y=>gF y.2 xk
    | none=>aN from rfl)
   obtain⟨gg,hgg⟩:∃ g,Aq b (xn,xk)=g:=⟨_,rfl⟩;rw [hgg] at GC MO NO;simp only [r5] at p0 p1 p2 p3 p4;clear hx px hgg;go_wp2_with fail;refine G.out.mono ?_;rintro e2 w2 ⟨he2,hb2⟩;have B2:=D (B1.out.trans (hb2.mono B1.out.size));obtain⟨x0,x1,x2,x3,x4⟩:=gH (BX.out.on hb2);simp only at x0 x1 x2 x3 x4;have hwl:wr.heap.size<w2.heap.size:=by have:=hb2.size; simp at this; omega
   rcases hg:Ig b xn with _|⟨yn,yk⟩
   ·rw [hg] at he2 GC;subst he2;have R:=D (show r=aN by rw [CO.out]; exact NO.out GC.out);clear hb2 G B1 BX ix p0 p1 p2 p3 p4 hg;unfold Kr;go_wp2;go_ret;exact⟨fZ R.out.symm,B2.out.alloc B2.out.size _⟩
   ·obtain⟨hm1,hm2⟩:=F4 hg;obtain rfl:yn=xn:=hm2;rw [hg] at he2 GC;subst he2;have WC:=D (fun W=>Dl yn xk yk W GX.out (GB.out _ hm1));simp only [r5] at WC;clear hb2 G B1 BX ix p0 p1 p2 p3 p4 hg hm1;unfold Kr;simp only [r5];go_wp2_with fail;refine (WC.out _).mono ?_;rintro e3 w3 ⟨rfl,hb3⟩;have B3:=D ((B2.out.alloc B2.out.size (aA #[U yn,J O (kN yk),J O (mE yk),J O (mF yk),U (kT yk)] 56)).trans (hb3.mono (B2.out.alloc B2.out.size (aA #[U yn,J O (kN yk),J O (mE yk),J O (mF yk),U (kT yk)] 56)).size));rw [<- GC.out];clear hb3 B2 x0 x1 x2 x3 x4 hwl WC;cases gg
    ·have R:=D (show r=aN by rw [CO.out]; exact NO.out rfl);go_wp2;go_ret;exact⟨fZ R.out.symm,B3.out⟩
    ·go_wp2
     go_roundw
     case rel=>exact⟨k+1,by omega,by go_num,B3.out,by rw [MO.out,AL.out]; rfl⟩
     case measure=>simp [intOf]; omega
  ·obtain rfl:k=m:=by omega
   have R:=D (show r=aK by rw [CO.out,<- I8 _ p _ HM.out]; exact AL.out);go_wp2;go_ret;exact⟨fZ R.out.symm,HB.out⟩
end Rl
namespace Sb
open Go.RowKit Go.Sort Rw Ytmklifheakemeaa.Nm Pr Bk Av
abbrev yh (W:au) (b:Nat) (a0 a1 a2 a3 a4 a5 a6:ak):au:=((((((W.setCell ⟨b,0,aF⟩ a0).setCell ⟨b,1,aF⟩ a1).setCell ⟨b,2,aF⟩ a2).setCell ⟨b,3,aF⟩ a3).setCell ⟨b,4,aF⟩ a4).setCell ⟨b,5,aF⟩ a5).setCell ⟨b,6,aF⟩ a6
theorem mW {W:au} {b:Nat} {t:TypeId} {z0 z1 z2 z3 z4 z5 z6:ak} (h:dH W b #[z0,z1,z2,z3,z4,z5,z6] t) (a0 a1 a2 a3 a4 a5 a6:ak):dH (yh W b a0 a1 a2 a3 a4 a5 a6) b #[a0,a1,a2,a3,a4,a5,a6] t:=by
 have h2:=dY (k:=6) (dY (k:=5) (dY (k:=4) (dY (k:=3) (dY (k:=2) (dY (k:=1) (dY (k:=0) h a0) a1) a2) a3) a4) a5) a6;simpa using h2
theorem jT {B:Nat} {W0 W:au} {b:Nat} (h:Below B W0 W) (hb:B<=b) (a0 a1 a2 a3 a4 a5 a6:ak):Below B W0 (yh W b a0 a1 a2 a3 a4 a5 a6):=(((((((h).setCell (p:=⟨b,0,aF⟩) hb a0).setCell (p:=⟨b,1,aF⟩) hb a1).setCell (p:=⟨b,2,aF⟩) hb a2).setCell (p:=⟨b,3,aF⟩) hb a3).setCell (p:=⟨b,4,aF⟩) hb a4).setCell (p:=⟨b,5,aF⟩) hb a5).setCell (p:=⟨b,6,aF⟩) hb a6
theorem yj {α:Type} {E:Ek α} {W:au} {B:Nat} {v:ak} {l:List α} (h:Own E W B v l) (b:Nat) (hb:b<B) (a0 a1 a2 a3 a4 a5 a6:ak):Own E (yh W b a0 a1 a2 a3 a4 a5 a6) B v l :=
 dX (dX (dX (dX (dX (dX (dX (h) b 0 a0 hb) b 1 a1 hb) b 2 a2 hb) b 3 a3 hb) b 4 a4 hb) b 5 a5 hb) b 6 a6 hb
theorem yt (w:au) (b:Nat) (a0 a1 a2 a3 a4 a5 a6:ak):But b w (yh w b a0 a1 a2 a3 a4 a5 a6) :=
 ((((((dL _ b _ _).trans (dL _ b _ _)).trans (dL _ b _ _)).trans (dL _ b _ _)).trans (dL _ b _ _)).trans (dL _ b _ _)).trans (dL _ b _ _)
theorem pR (x:gM) (p:List C5) (w:au) (hp:iy w (dR x.2.2.2.2.1) p) (hl:p.length<=900) :
  bA Try.prog 30 #[kX x] w fun e w'=>(∃ v':Sl,e=aO (kX (x.1,x.2.1,x.2.2.1,x.2.2.2.1,v',x.2.2.2.2.2.1,x.2.2.2.2.2.2))/\qA w' w.heap.size (dR v') p)/\Below w.heap.size w w':=by
 obtain⟨y1,y2,y3,y4,⟨s1,s2,s3⟩,y6,y7⟩:=x;obtain⟨h0,X,Y⟩:=iT w #[J O y1,J O y2,J O y3,J O y4,aC s1 s2 s3,J O y6,aU y7] #[J O 0,J O 0,J O 0,J O 0,aC aF 0 0,J O 0,aU aN] 43 43;have C:=D (lU (s1,s2,s3) p _ (hp.on h0) hl);have B:=D h0;have x4:=X.cell 4;simp only [aV,aQ,aR] at x4;have X:=D X;have Y:=D Y;clear h0 hp hl;go_enter Try.func30,Try.ntmps30;go_wp2_with fail;generalize (w.alloc (aA #[J O y1,J O y2,J O y3,J O y4,aC s1 s2 s3,J O y6,aU y7] 43)).alloc (aA #[J O 0,J O 0,J O 0,J O 0,aC aF 0 0,J O 0,aU aN] 43)=W at *;refine C.out.mono ?_;rintro e w1 ⟨⟨⟨u1,u2,u3⟩,rfl,ho⟩,hb⟩;have X1:=X.out.on hb;have Y1:=Y.out.on hb;have hs:w.heap.size<W.heap.size:=X.out.lt;have O1:=D (dX ho w.heap.size 4 (aC u1 u2 u3) hs);have XB:=D (show dH _ _ #[J O y1,J O y2,J O y3,J O y4,aC u1 u2 u3,J O y6,aU y7] _ from by simpa using dY (k:=4) X1 (aC u1 u2 u3));have YB:=D (show dH _ _ _ _ from (RowKit.Below.heap_setCell w1 ⟨w.heap.size,4,aF⟩ (aC u1 u2 u3) _ (show w.heap.size+1≠w.heap.size by omega)).trans Y1);have B1:=D ((B.out.trans (hb.mono B.out.size)).setCell (p:=⟨w.heap.size,4,aF⟩) (aG _) (aC u1 u2 u3));have Rt:=X1.cell 4;have f4:=X1.fr 4;have z4:=X1.lt;simp only [aV,aQ,aR] at Rt;clear X1 Y1 ho hb x4 C;go_upto_region 2 with fail;clear Rt f4 z4;generalize w1.setCell ⟨w.heap.size,4,aF⟩ (aC u1 u2 u3)=w2 at *;obtain⟨x0,x1,x2,x3,x4,x5,x6⟩:=XB.out.qo;obtain⟨r0,r1,r2,r3,r4,r5,r6⟩:=YB.out.qo;obtain⟨t0,t1,t2,t3,t4,t5,t6⟩:=YB.out.LC;have zz:=YB.out.lt;have hs2:w.heap.size+1<W.heap.size:=Y.out.lt;have FB:=D (mW YB.out (J O y1) (J O y2) (J O y3) (J O y4) (aC u1 u2 u3) (J O y6) (aU y7));have BL:=D (jT (b:=w.heap.size+1) B1.out (by omega) (J O y1) (J O y2) (J O y3) (J O y4) (aC u1 u2 u3) (J O y6) (aU y7));have FO:=D (yj O1.out (w.heap.size+1) hs2 (J O y1) (J O y2) (J O y3) (J O y4) (aC u1 u2 u3) (J O y6) (aU y7));have HS:=D hs;clear hs hs2;go_wp2_with fail;obtain⟨v0,v1,v2,v3,v4,v5,v6⟩:=FB.out.qo;refine bodyPost_ret (v:=.agg #[J O y1,J O y2,J O y3,J O y4,aC u1 u2 u3,J O y6,aU y7]) (by simp [results,Try.results30,go_sem,v0,v1,v2,v3,v4,v5,v6]) rfl ?_;exact⟨⟨(u1,u2,u3),rfl,dK FO.out (bq HS.out)⟩,BL.out⟩
end Sb
end Go.Proofs.Ytmklifheakemeaa
