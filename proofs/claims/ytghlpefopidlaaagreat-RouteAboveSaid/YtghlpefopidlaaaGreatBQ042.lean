/-
  A subscription made,. Conditions as told.
-/
import Derived.Test.YtghlpefopidlaaaGreatBQ038
import Derived.Test.YtghlpefopidlaaaGreatBQ041
import Derived.Maps.RangeWalk
set_option maxRecDepth 100000
set_option maxHeartbeats 64000000
open _root_.Bool renaming false->aG,true->bf,eq_iff_iff->bN,and_eq_true->dB
open _root_.Go renaming World->aA,Addr->aF,Value->aU,bodyPost_ret->bW
open Go.IntKind renaming i64->X
open Go.Lib renaming hid->L
open Go.Obj renaming cells->aZ
open Go.Operand renaming tmp->ah
open Go.Proofs.Tryz renaming prog->aB,underlying61->bI
open Go.Proofs.YtghlpefopidlaaaGreat.Av renaming eF->au
open Go.Proofs.YtghlpefopidlaaaGreat.Bk.Ow renaming id->bG
open Go.Proofs.YtghlpefopidlaaaGreat.Rg renaming dF->aK,eH->cK
open Go.RowKit.Below renaming refl->ay
open Go.Value renaming slice->J,int->U,pointer->Z,agg->aV,bool->aY
open _root_.List renaming getElem?_toArray->ak,getElem?_cons_zero->aC,getElem?_cons_succ->aD,getElem?_eq_some_iff->aH,mem_map->aI,mem_of_getElem?->aJ,mem_iff_getElem?->aM,filter_eq_self->aO,getElem?_eq_getElem->aP,mem_filter->aR,mem_singleton->aS,mem_append->bg,map_append->bC,map_cons->bF,mem_append_left->bJ,map_nil->bK,map_toArray->bL,length_map->bP,length_append->bQ,filter_cons_of_neg->bU,nodup_append->bV,length_take->bY,any_eq_true->bZ,mem_cons->cu,take_append_of_le_length->cB,nodup_cons->cO,drop_eq_getElem_cons->cZ,getElem?_map->dh,getElem?_take_of_lt->dw,pairwise_singleton->dx,length_cons->dz,take_of_length_le->dD
open List.Pairwise renaming nil->aW
open _root_.Nat renaming le_refl->aT,le_trans->bD,zero_le->bH,lt_succ_of_lt->dn
open _root_.Option renaming some->O,none->Y
open Option.some renaming inj->aQ
open _root_.Or renaming inr->aj,inl->aX
open _root_.Prod renaming fst->aN
namespace Go.Proofs.YtghlpefopidlaaaGreat
namespace Rt
open Go.RowKit Go.Sort Rw YtghlpefopidlaaaGreat.Nm Pr Bk Av Rl Sb
theorem QI {b:Br} (h:gP b) {i k:Nat} {a c:Ad} (hi:b.dW[i]?=O a) (hk:b.dW[k]?=O c) (e:a.id=c.id):i=k:=by
 rcases Nat.lt_trichotomy i k with q|q|q
 ·have:=jy h.dW q hi hk;rw [e,iV] at this; cases this
 ·exact q
 ·have:=jy h.dW q hk hi;rw [e,iV] at this; cases this
theorem wG {m:List En} (hr:gK m) {j:Nat} {x:En} (hx:m[j]?=O x):cutAt m j=m.filter fun y=>decide (dM y≠dM x):=by
 have hlt:=(aH.1 hx).1;have e:m=m.take j++x::m.drop (j+1):=by
  conv=>lhs; rw [<- List.take_append_drop j m]
  rw [cZ hlt,(aH.1 hx).2]
 have hk:=QE hr hx
 conv=>rhs; rw [e]
 rw [List.filter_append,bU (by simp)];unfold cutAt at hk ⊢;rw [aO.2 fun y hy=>decide_eq_true (hk y (bJ _ hy)),aO.2 fun y hy=>decide_eq_true (hk y (List.mem_append_right _ hy))]
theorem wH {c:Br} (hr:gK c.ent) (t x:dV) (f:Int):((∀ e∈c.ent,dM e≠(t,x))/\takeB c t x f=(c,[],aG))\/(∃ j e,c.ent[j]?=O e/\dM e=(t,x)/\(e.from_=f->takeB c t x f=if e.up=aG then ({ c with ent:=cutAt c.ent j },[],aG) else ({ c with ent:=(fP t (cutAt c.ent j) (cutAt c.ent j).length).1 },(fP t (cutAt c.ent j) (cutAt c.ent j).length).2,bf))):=by
 have ft:=oh hr t x;by_cases ht:iF c.ent t x=bf
 ·right;obtain⟨e,h1,h2,h3⟩:=qh ht;rw [ht,if_pos rfl] at ft;refine⟨_,e,h1,h2,fun hf=>?_⟩;unfold takeB;rw [ft,Int.toNat_natCast,h1];simp only;rw [if_neg (show ¬ ((dY (c.ent.map dM) (t,x):Int)=-1) by omega),if_neg (by simp [hf])]
 ·left;rw [if_neg ht] at ft;refine⟨fun e he q=>ht ?_,?_⟩
  ·have:=(tJ hr he).2;rw [show e.tree=t from congrArg aN q,show e.sub=x from congrArg Prod.snd q] at this;exact this
  ·unfold takeB;rw [ft]
   split
   ·rfl
   ·rw [if_pos rfl]
theorem zA {b:Br} (hok:gP b) {k:Nat} {a:Ad} (ha:b.dW[k]?=O a):b.dW[(fH (b.dW.map Ad.id) a.id).toNat]?=O a:=by
 rw [rQ,Cm (b.dW.map Ad.id) k a.id (by rw [dh,ha]; rfl) fun j z hj hz q=>by
  rw [dh] at hz;cases hc:b.dW[j]? with
  | none=>rw [hc] at hz; cases hz
  | some c =>
   rw [hc] at hz;have:=QI hok hc ha ((aQ hz).trans q);omega,Int.toNat_natCast]
 exact ha
theorem FN {c:Br} {x:dV} (h:(c.own[gQ (c.own.map bG) x]?).map bG=O x) (r:List C5):iX c x r=(c,[]):=by
 unfold iX;rw [if_pos h]
abbrev Up:=List (dV×List C5)
structure oL (b:Br) (A:Up):Prop where
 ok:gP b
 me:b.me=0
 near:b.near=[1,2,3]
 dW:b.dW=[⟨(1,0),[],1⟩]
 seen:b.seen=[(1,0)]
 tight:iL b
 pe:∀ e∈b.ent,dN e.p
 tr:∀ e∈b.ent,e.tree=(1,0)
 map:∀ x q,(x,q)∈A↔∃ e∈b.ent,e.up=bf/\e.sub=x/\e.p=q
 nd:(A.map aN).Nodup
abbrev QJ:Br:=⟨0,[1,2,3],[⟨(1,0),[],1⟩],[(1,0)],[],[]⟩
theorem AP:oL QJ [] :=
 ⟨⟨by simp,dx _ _,dx _ _,aW,aW,fun a h=>(by
   obtain rfl:=aS.1 h;exact⟨by simp,rfl,rfl⟩),fun e h=>by simp at h,fun o h=>by simp at h⟩,rfl,rfl,rfl,rfl,fun _ _ _ e h=>by simp at h,fun e h=>by simp at h,fun e h=>by simp at h,fun x q=>by simp,aW⟩
theorem FR:NF []:=⟨aW,by simp,by simp,by simp⟩
theorem FT {a:List Cn} (na:NF a):nR [] a=bf:=(qI FR.rise na.rise FR.five).2 (Iw a na.five)
theorem FX {a b:List Cn} (na:NF a) (nb:NF b):nR b a=nR a b:=by
 rw [bN,qI nb.rise na.rise nb.five,qI na.rise nb.rise na.five];exact⟨fun h=>h.symm nb.rise na.rise nb.fJ na.fJ,fun h=>h.symm na.rise nb.rise na.fJ nb.fJ⟩
theorem FY {p:List C5} (h:dN p):jQ p []=bf:=by
 obtain⟨a,na,rfl⟩:=h;unfold jQ;rw [rP,bK,FX FR na];exact FT na
theorem oL.find {b:Br} {A:Up} (h:oL b A):fM b.dW (1,0)=O ⟨(1,0),[],1⟩:=by rw [h.dW]; simp [fM]
theorem oL.uniq {b:Br} {A:Up} (h:oL b A) {e z:En} (he:e∈b.ent) (hz:z∈b.ent) (q:e.sub=z.sub):e=z:=by
 obtain⟨i,hi⟩:=aM.1 he;obtain⟨j,hj⟩:=aM.1 hz;have:=pI h.ok.ent hi hj (by unfold dM; rw [h.tr e he,h.tr z hz,q]);subst this;exact aQ (hi.symm.trans hj)
theorem oL.own {b:Br} {A:Up} (h:oL b A) {o:List Ow} (hok:gP { b with own:=o }):oL { b with own:=o } A :=
 ⟨hok,h.me,h.near,h.dW,h.seen,h.tight,h.pe,h.tr,h.map,h.nd⟩
theorem oL.br {b:Br} {A:Up} (h:oL b A):kK b.ent (1,0)=b.ent:=by
 rw [yZ h.ok.ent];exact aO.2 fun e he=>by simpa using h.tr e he
theorem oL.cov {b:Br} {A:Up} (h:oL b A) {e:En} (he:e∈b.ent):∃ q∈A,fG q.2 e.p=bf:=by
 cases hu:e.up with
 | true=>exact⟨(e.sub,e.p),(h.map _ _).2 ⟨e,he,hu,rfl,rfl⟩,Nc _⟩
 | false =>
  obtain⟨z,h1,h2,h3,h4⟩:=(kW _ _ _).1 (h.tight ⟨(1,0),[],1⟩ (by rw [h.dW]; simp) (show (1:Int)≠-1 by decide) e he (h.tr e he) hu);exact⟨(z.sub,z.p),(h.map _ _).2 ⟨z,h1,h3,rfl,rfl⟩,h4⟩
theorem oL.JM {b:Br} {A:Up} (h:oL b A) {e:En} (he:e∈b.ent):e.sub∈A.map aN↔e.up=bf:=by
 constructor
 ·intro hm;obtain⟨⟨x,q⟩,h1,h2⟩:=aI.1 hm;obtain⟨z,h3,h4,h5,_⟩:=(h.map x q).1 h1;rw [h.uniq he h3 (h2.symm.trans h5.symm)];exact h4
 ·intro hu;exact aI.2 ⟨(e.sub,e.p),(h.map _ _).2 ⟨e,he,hu,rfl,rfl⟩,rfl⟩
theorem oL.none_ {b:Br} {A:Up} (h:oL b A) {x:dV} (hn:∀ e∈b.ent,e.sub≠x):x ∉ A.map aN:=by
 intro hm;obtain⟨⟨y,q⟩,h1,h2⟩:=aI.1 hm;obtain⟨z,h3,_,h5,_⟩:=(h.map y q).1 h1;exact hn z h3 (h5.trans h2)
theorem ng:∀ {l m:List dV},l.Nodup->(∀ x∈l,x∈m)->l.length<=m.length
 | [],_,_,_=>bH _
 | x::l,m,hn,h=>by
  have h1:=cO.1 hn;have h2:=ng (m:=m.erase x) h1.2 fun y hy=>(List.mem_erase_of_ne fun q=>h1.1 (by rw [<- q]; exact hy)).2 (h y (List.mem_cons_of_mem _ hy));have h3:=List.length_erase_of_mem (h x (by simp));have h4:=List.length_pos_of_mem (h x (by simp));rw [dz];omega
theorem oL.fewer {b:Br} {A:Up} (h:oL b A):A.length<=b.ent.length:=by
 have:=ng (m:=b.ent.map En.sub) h.nd fun x hx=>by
  obtain⟨⟨y,q⟩,h1,rfl⟩:=aI.1 hx;obtain⟨z,h3,_,h5,_⟩:=(h.map y q).1 h1;exact aI.2 ⟨z,h3,h5⟩
 simpa using this
theorem Hz {b:Br} {A:Up} (h:oL b A) {x:dV} {p:List C5} {f:Int} (hf:f=-1\/f=2\/f=3) (hn:∀ e∈b.ent,e.sub≠x) (hp:dN p) (hr:Wr.gX p=bf) :
  ∃ u,gY b ⟨(1,0),x,p,f,aG⟩=({ b with ent:=eY b.ent (dY (b.ent.map dM) ((1,0),x)) ⟨(1,0),x,p,f,u⟩ },u)/\oL { b with ent:=eY b.ent (dY (b.ent.map dM) ((1,0),x)) ⟨(1,0),x,p,f,u⟩ } (if u=bf then A++[(x,p)] else A):=by
 have hco:mQ b.near f=bf:=by rw [h.near]; rcases hf with rfl | rfl | rfl <;> rfl
 have H:=Fw h.ok ⟨(1,0),x,p,f,aG⟩ hco hr;have HT:=sV h.ok ⟨(1,0),x,p,f,aG⟩ h.tight;rcases JK h.ok.ent ⟨(1,0),x,p,f,aG⟩ (fun y hy e=>hn y hy (congrArg Prod.snd e)) with⟨hfi,_⟩|⟨a,hfi,h2,_,_⟩|⟨a,u,hfi,_,_,he,hu⟩
 ·rw [show fM b.dW (⟨(1,0),x,p,f,aG⟩:En).tree=_ from h.find] at hfi; cases hfi
 ·rw [show fM b.dW (⟨(1,0),x,p,f,aG⟩:En).tree=_ from h.find] at hfi;obtain rfl:=aQ hfi;have h2:f=1:=h2;rcases hf with q|q|q <;> (rw [q] at h2; exact absurd h2 (by decide))
 ·have he2:gY b ⟨(1,0),x,p,f,aG⟩=({ b with ent:=eY b.ent (dY (b.ent.map dM) ((1,0),x)) ⟨(1,0),x,p,f,u⟩ },u):=he;rw [he2] at H HT;have hm:∀ z,z∈eY b.ent (dY (b.ent.map dM) ((1,0),x)) (⟨(1,0),x,p,f,u⟩:En)↔z=⟨(1,0),x,p,f,u⟩\/z∈b.ent:=fun z=>jf _ _ _ _;refine⟨u,he2,H,h.me,h.near,h.dW,h.seen,HT,fun e q=>?_,fun e q=>?_,fun y q=>?_,?_⟩
  ·rcases (hm e).1 q with rfl|q
   ·exact hp
   ·exact h.pe e q
  ·rcases (hm e).1 q with rfl|q
   ·rfl
   ·exact h.tr e q
  ·cases u with
   | true =>
    rw [if_pos rfl,bg,aS];constructor
    ·rintro (h1|h1)
     ·obtain⟨z,q1,q2⟩:=(h.map y q).1 h1;exact⟨z,(hm z).2 (aj q1),q2⟩
     ·cases h1;exact⟨_,(hm _).2 (aX rfl),rfl,rfl,rfl⟩
    ·rintro⟨z,q1,q2,q3,q4⟩;rcases (hm z).1 q1 with rfl|q1
     ·right; rw [<- q3,<- q4]
     ·exact aX ((h.map y q).2 ⟨z,q1,q2,q3,q4⟩)
   | false =>
    rw [if_neg (by simp)];constructor
    ·intro h1;obtain⟨z,q1,q2⟩:=(h.map y q).1 h1;exact⟨z,(hm z).2 (aj q1),q2⟩
    ·rintro⟨z,q1,q2,q3,q4⟩;rcases (hm z).1 q1 with rfl|q1
     ·cases q2
     ·exact (h.map y q).2 ⟨z,q1,q2,q3,q4⟩
  ·cases u with
   | true =>
    rw [if_pos rfl,bC,bV];refine⟨h.nd,by simp,fun y hy z hz q=>h.none_ hn ?_⟩;have:z=x:=by simpa using hz
    rw [<- this,<- q];exact hy
   | false=>rw [if_neg (by simp)]; exact h.nd
theorem JN {b:Br} {A:Up} (h:oL b A) {e:En} (he:e∈b.ent) (p:List C5) (f:Int):gY b ⟨(1,0),e.sub,p,f,aG⟩=(b,aG):=by
 have:=JJ h.ok.ent he p f;rw [h.tr e he] at this;exact this
theorem zB (t:dV) (m:List En):∀ k,∃ is:List Nat,is.Pairwise (·<·)/\(∀ i∈is,i<k)/\eT (fun y i=>∃ z0,m[i]?=O z0/\y=sP z0) (fP t m k).2 is
 | 0=>⟨[],aW,by simp,.nil⟩
 | k+1=>by
  obtain⟨is,h1,h2,h3⟩:=zB t m k;rw [iC];unfold fI;cases hk:(fP t m k).1[k]? with
  | none=>exact⟨is,h1,fun i hi=>dn (h2 i hi),h3⟩
  | some e =>
   simp only;by_cases hc:e.tree=t/\e.up=aG/\eP (fP t m k).1 t e.p=aG
   ·rw [if_pos hc];have hl:=(aH.1 hk).1;rw [(lD t m k).1] at hl;obtain⟨z,hz1,hz2⟩:=nK t m k k m[k] (aP hl);rw [hk] at hz1;obtain rfl:=aQ hz1;have hez:e=m[k]:=by
     rcases hz2 with q|q
     ·exact q
     ·rw [q] at hc; exact absurd hc.2.1 (by simp [sP])
    refine⟨is++[k],List.pairwise_append.2 ⟨h1,by simp,fun i hi j hj=>?_⟩,fun i hi=>?_,h3.append (.cons ⟨m[k],aP hl,by rw [hez]⟩ .nil)⟩
    ·rw [aS.1 hj]; exact h2 i hi
    ·rcases bg.1 hi with hi|hi
     ·exact dn (h2 i hi)
     ·rw [aS.1 hi]; exact Nat.lt_succ_self k
   ·rw [if_neg hc];exact⟨is,h1,fun i hi=>dn (h2 i hi),h3⟩
theorem Ng {α β:Type} {R:α->β->Prop} {l:List α} {m:List β} (h:eT R l m):∀ x∈l,∃ y∈m,R x y:=by
 induction h with
 | nil=>intro x hx; simp at hx
 | cons h1 _ ih =>
  intro x hx;rcases cu.1 hx with rfl|hx
  ·exact⟨_,by simp,h1⟩
  ·obtain⟨y,h2,h3⟩:=ih x hx;exact⟨y,List.mem_cons_of_mem _ h2,h3⟩
theorem JO {m:List En} (hr:gK m) {t:dV} (ht:∀ e∈m,e.tree=t) (k:Nat):((fP t m k).2.map En.sub).Nodup:=by
 obtain⟨is,h1,h0,h3⟩:=zB t m k;generalize (fP t m k).2=l at *;clear h0;clear k
 induction h3 with
 | nil=>exact aW
 | @cons y i l is h4 h5 ih =>
  have h1':=List.pairwise_cons.1 h1;rw [bF,cO];refine⟨fun hm=>?_,ih h1'.2⟩;obtain⟨w,hw,hs⟩:=aI.1 hm;obtain⟨j,hj,z2,hz2,rfl⟩:=Ng h5 w hw;obtain⟨z1,hz1,rfl⟩:=h4;have hlt:=h1'.1 j hj;have hk:dM z1=dM z2:=by
   unfold dM;rw [ht z1 (aJ hz1),ht z2 (aJ hz2),show z1.sub=z2.sub from hs.symm]
  have:=pI hr hz1 hz2 hk;omega
theorem oz (t:dV) (m:List En):∀ k,∀ z∈(fP t m k).1,z∈m\/z∈(fP t m k).2
 | 0,z,h=>aX h
 | k+1,z,h=>by
  rw [iC] at h ⊢;unfold fI at h ⊢;cases hk:(fP t m k).1[k]? with
  | none=>rw [hk] at h; exact oz t m k z h
  | some e =>
   rw [hk] at h;simp only at h ⊢;by_cases hc:e.tree=t/\e.up=aG/\eP (fP t m k).1 t e.p=aG
   ·rw [if_pos hc] at h ⊢;rcases List.mem_or_eq_of_mem_set h with h|rfl
    ·rcases oz t m k z h with q|q
     ·exact aX q
     ·exact aj (bJ _ q)
    ·exact aj (List.mem_append_right _ (by simp))
   ·rw [if_neg hc] at h ⊢;exact oz t m k z h
theorem FZ (t:dV) (m:List En) (k:Nat) {z:En} (hz:z∈m) (hu:z.up=bf):z∈(fP t m k).1:=by
 obtain⟨j,hj⟩:=aM.1 hz;obtain⟨z',h1,h2⟩:=nK t m k j z hj;have:z'=z:=by
  rcases h2 with q|q
  ·exact q
  ·rw [q]; unfold sP; rw [<- hu]
 rw [<- this];exact aJ h1
structure AbT (b:Br) (A:Up) (e:En) (g:Br) (ups:List En):Prop where
 ent:g={ b with ent:=g.ent }
 gone:∀ z∈g.ent,z.sub≠e.sub
 back:∀ z∈g.ent,∃ z0∈b.ent,z.sub=z0.sub/\z.from_=z0.from_
 forth:∀ z∈b.ent,z.sub≠e.sub->∃ z'∈g.ent,z'.sub=z.sub
 low:e.up=aG->ups=[]/\oL g A
 high:e.up=bf->oL g ((A++ups.map fun y=>(y.sub,y.p)).filter fun q=>decide (q.1≠e.sub))
 dis:(ups.map En.sub).Nodup
 each:∀ y∈ups,y.sub ∉ A.map aN/\y.sub≠e.sub/\y.tree=(1,0)/\dN y.p
 JM:e.up=bf->e.sub∈A.map aN
 few:ups.length<=b.ent.length
theorem Nh {b:Br} {A:Up} (h:oL b A) {e:En} (he:e∈b.ent):∃ g ups,takeB b (1,0) e.sub e.from_=(g,ups,e.up)/\AbT b A e g ups:=by
 have H:=Ht h.ok (1,0) e.sub e.from_;have HT:=qO (1,0) e.sub e.from_ h.tight;have hf:=(lG b (1,0) e.sub e.from_).2;rcases wH h.ok.ent (1,0) e.sub e.from_ with⟨hn,_⟩|⟨j,e',hj,hke,htk⟩
 ·exact absurd (show dM e=((1,0),e.sub) by unfold dM; rw [h.tr e he]) (hn e he)
 ·obtain rfl:e'=e:=h.uniq (aJ hj) he (congrArg Prod.snd hke);have JQ:=htk rfl;have hcm:∀ z,z∈cutAt b.ent j↔z∈b.ent/\z.sub≠e'.sub:=by
   intro z;rw [wG h.ok.ent hj,aR,decide_eq_true_eq];constructor
   ·rintro⟨h1,h2⟩;exact⟨h1,fun q=>h2 (by unfold dM; rw [h.tr z h1,h.tr e' he,q])⟩
   ·rintro⟨h1,h2⟩;exact⟨h1,fun q=>h2 (congrArg Prod.snd q)⟩
  have hrc:gK (cutAt b.ent j):=by rw [wG h.ok.ent hj]; exact h.ok.ent.sublist List.filter_sublist
  have htc:∀ z∈cutAt b.ent j,z.tree=(1,0):=fun z hz=>h.tr z ((hcm z).1 hz).1;by_cases hu:e'.up=aG
  ·rw [if_pos hu] at JQ;rw [JQ] at H HT;refine⟨_,_,by rw [JQ,hu],rfl,fun z hz=>((hcm z).1 hz).2,fun z hz=>⟨z,((hcm z).1 hz).1,rfl,rfl⟩,fun z hz hne=>⟨z,(hcm z).2 ⟨hz,hne⟩,rfl⟩,fun _=>⟨rfl,⟨H,h.me,h.near,h.dW,h.seen,HT,fun z hz=>h.pe z ((hcm z).1 hz).1,fun z hz=>htc z hz,fun x q=>?_,h.nd⟩⟩,fun q=>(by rw [hu] at q; cases q),aW,by simp,fun q=>(by rw [hu] at q; cases q),bH _⟩;rw [h.map];constructor
   ·rintro⟨z,q1,q2,q3,q4⟩;refine⟨z,(hcm z).2 ⟨q1,fun q=>?_⟩,q2,q3,q4⟩;rw [h.uniq q1 he q,hu] at q2;cases q2
   ·rintro⟨z,q1,q2⟩;exact⟨z,((hcm z).1 q1).1,q2⟩
  ·have hu1:e'.up=bf:=by simpa using hu
   rw [if_neg hu] at JQ;rw [JQ] at H HT hf;have hup:=zx (1,0) (cutAt b.ent j) _ (aT _);have WX:=oz (1,0) (cutAt b.ent j) (cutAt b.ent j).length;have WY:=fun z hz hu=>FZ (1,0) (cutAt b.ent j) (cutAt b.ent j).length (z:=z) hz hu;have hnd:=JO hrc htc (cutAt b.ent j).length;have hbk:=fun z (hz:z∈(fP (1,0) (cutAt b.ent j) (cutAt b.ent j).length).1)=>Fy (1,0) (cutAt b.ent j) _ hz;have hat:=nK (1,0) (cutAt b.ent j) (cutAt b.ent j).length;generalize fP (1,0) (cutAt b.ent j) (cutAt b.ent j).length=s at *;have hback:∀ z∈s.1,∃ z0∈b.ent,z0.sub≠e'.sub/\z.sub=z0.sub/\z.from_=z0.from_/\z.p=z0.p/\z.tree=z0.tree:=by
    intro z hz;obtain⟨z0,q1,q2⟩:=hbk z hz;have q3:=(hcm z0).1 q1;rcases q2 with rfl|rfl
    ·exact⟨z,q3.1,q3.2,rfl,rfl,rfl,rfl⟩
    ·exact⟨z0,q3.1,q3.2,rfl,rfl,rfl,rfl⟩
   have Ni:∀ y∈s.2,y∈s.1/\y.up=bf/\y.sub ∉ A.map aN/\y.sub≠e'.sub/\y.tree=(1,0)/\dN y.p:=by
    intro y hy;obtain⟨q1,q2,z0,q3,rfl,q5,q6,_⟩:=hup y hy;have q7:=(hcm z0).1 q3;exact⟨q1,q2,fun q=>(by have:=(h.JM q7.1).1 q; rw [q6] at this; cases this),q7.2,q5,h.pe z0 q7.1⟩
   refine⟨_,_,by rw [JQ,hu1],rfl,fun z hz=>?_,fun z hz=>?_,fun z hz hne=>?_,fun q=>absurd q hu,fun _=>⟨H,h.me,h.near,h.dW,h.seen,HT,fun z hz=>?_,fun z hz=>?_,fun x q=>?_,?_⟩,hnd,fun y hy=>(Ni y hy).2.2,fun _=>(h.JM he).2 hu1,hf⟩
   ·obtain⟨z0,_,q2,q3,_⟩:=hback z hz;rw [q3]; exact q2
   ·obtain⟨z0,q1,_,q3,q4,_⟩:=hback z hz;exact⟨z0,q1,q3,q4⟩
   ·obtain⟨i,hi⟩:=aM.1 ((hcm z).2 ⟨hz,hne⟩);obtain⟨z',q1,q2⟩:=hat i z hi;exact⟨z',aJ q1,by rcases q2 with rfl | rfl <;> rfl⟩
   ·obtain⟨z0,q1,_,_,_,q5,_⟩:=hback z hz;rw [q5]; exact h.pe z0 q1
   ·obtain⟨z0,q1,_,_,_,_,q6⟩:=hback z hz;rw [q6]; exact h.tr z0 q1
   ·rw [aR,decide_eq_true_eq,bg];constructor
    ·rintro⟨q1|q1,q2⟩
     ·obtain⟨z,r1,r2,r3,r4⟩:=(h.map x q).1 q1;exact⟨z,WY z ((hcm z).2 ⟨r1,fun r=>q2 (by rw [<- r,r3])⟩) r2,r2,r3,r4⟩
     ·obtain⟨y,r1,r2⟩:=aI.1 q1;obtain⟨r3,r4,_⟩:=Ni y r1;cases r2;exact⟨y,r3,r4,rfl,rfl⟩
    ·rintro⟨z,r1,r2,rfl,rfl⟩;obtain⟨z0,s1,s2,s3,s4,s5,s6⟩:=hback z r1;refine⟨?_,by rw [s3]; exact s2⟩;rcases WX z r1 with q1|q1
     ·exact aX ((h.map _ _).2 ⟨z,((hcm z).1 q1).1,r2,rfl,rfl⟩)
     ·exact aj (aI.2 ⟨z,q1,rfl⟩)
   ·refine List.Nodup.sublist (List.filter_sublist.map _) ?_;rw [bC,List.map_map,bV];refine⟨h.nd,hnd,fun x hx y hy q=>?_⟩;subst q;obtain⟨z,r1,rfl⟩:=aI.1 hy;exact (Ni z r1).2.2.1 hx
structure Ky (b:Br) (A:Up):Prop where
 e:oL b A
 mine:∀ z∈b.ent,z.from_=-1->∃ o∈b.own,o.id=z.sub
 theirs:∀ o∈b.own,∃ z∈b.ent,z.sub=o.id/\z.from_=-1
 side:∀ z∈b.ent,(z.from_=-1/\z.sub.1<=3)\/((z.from_=2\/z.from_=3)/\8<=z.sub.1)
theorem QK:Ky QJ []:=⟨AP,fun z h=>by simp at h,fun z h=>by simp at h,fun z h=>by simp at h⟩
def pJ (A:Up) (o:Ou):Up:=if o.kind=4 then A.filter (fun q=>decide (q.1≠o.id)) else A++[(o.id,o.p)]
def jE (A:Up) (l:List Ou) (k:Nat):Up:=(l.take k).foldl pJ A
theorem wI {A:Up} {l:List Ou} {k:Nat} {o:Ou} (h:l[k]?=O o):jE A l (k+1)=pJ (jE A l k) o:=by
 unfold jE;rw [List.take_add_one,h,List.foldl_append]
 rfl
structure Said (A:Up) (l:List Ou) (A':Up):Prop where
 all:jE A l l.length=A'
 each:∀ k o,l[k]?=O o->o.Um=1/\o.tree=(1,0)/\((o.kind=3/\o.id ∉ (jE A l k).map aN/\dN o.p)\/(o.kind=4/\o.id∈(jE A l k).map aN/\k+1=l.length))
theorem kI (A:Up):Said A [] A:=⟨rfl,fun k o h=>by simp at h⟩
theorem Dn {A:Up} {x:dV} {p:List C5} (hn:x ∉ A.map aN) (hp:dN p):Said A [⟨1,3,(1,0),x,p⟩] (A++[(x,p)]):=by
 refine⟨by simp [jE,pJ],fun k o h=>?_⟩;cases k with
 | zero =>
  obtain rfl:=aQ h;exact⟨rfl,rfl,aX ⟨rfl,hn,hp⟩⟩
 | succ k=>simp at h
theorem rT:∀ (l:List En) (A:Up),(l.map (mU 1)).foldl pJ A=A++l.map fun y=>(y.sub,y.p)
 | [],A=>by simp
 | y::l,A=>by
  rw [bF,List.foldl_cons,rT l];unfold pJ mU;simp
theorem JR {A:Up} {x:dV} {ups:List En} (hd:(ups.map En.sub).Nodup) (he:∀ y∈ups,y.sub ∉ A.map aN/\y.sub≠x/\y.tree=(1,0)/\dN y.p) (hx:x∈A.map aN):Said A (ups.map (mU 1)++[⟨1,4,(1,0),x,[]⟩]) ((A++ups.map fun y=>(y.sub,y.p)).filter fun q=>decide (q.1≠x)):=by
 have hL:(ups.map (mU 1)).length=ups.length:=bP _;refine⟨?_,fun k o h=>?_⟩
 ·unfold jE;rw [List.take_length,List.foldl_append,rT]
  rfl
 ·by_cases hk:k<ups.length
  ·rw [List.getElem?_append_left (by rw [hL]; exact hk),dh,aP hk] at h;obtain rfl:=aQ h;have hm:=he ups[k] (List.getElem_mem hk);refine⟨rfl,hm.2.2.1,aX ⟨rfl,?_,hm.2.2.2⟩⟩;show ups[k].sub ∉ _;unfold jE;rw [cB (by rw [hL]; omega),<- List.map_take,rT,bC,List.map_map,bg];rintro (q|q)
   ·exact hm.1 q
   ·obtain⟨y,hy,hq⟩:=aI.1 q;obtain⟨i,hi⟩:=aM.1 hy;have hik:i<k:=by
     have:=(aH.1 hi).1;rw [bY] at this;omega
    rw [dw hik] at hi;have hlt:i<ups.length:=by omega
    have hne:=List.pairwise_iff_getElem.1 hd i k (by rw [bP]; exact hlt) (by rw [bP]; exact hk) hik;rw [List.getElem_map,List.getElem_map] at hne;refine hne ?_;rw [(aH.1 hi).2];exact hq
  ·have hk2:k=ups.length:=by
    have:=(aH.1 h).1;rw [bQ,hL] at this;simp at this;omega
   rw [hk2,List.getElem?_append_right (by rw [hL]; exact aT _),hL,Nat.sub_self] at h;obtain rfl:=aQ h;refine⟨rfl,rfl,aj ⟨rfl,?_,by rw [bQ,hL,hk2]; rfl⟩⟩;show x∈_;unfold jE;rw [hk2,cB (by rw [hL]; exact aT _),dD (by rw [hL]; exact aT _),rT,bC];exact bJ _ hx
theorem oL.par {b:Br} {A:Up} (h:oL b A):b.dW[(fH (b.dW.map Ad.id) (1,0)).toNat]?=O ⟨(1,0),[],1⟩:=zA h.ok (k:=0) (a:=⟨(1,0),[],1⟩) (by rw [h.dW]; rfl)
structure AbD (b:Br) (A:Up) (e:En) (s:Br×List Ou) (A':Up):Prop where
 own:s.1.own=b.own
 gone:∀ z∈s.1.ent,z.sub≠e.sub
 back:∀ z∈s.1.ent,∃ z0∈b.ent,z.sub=z0.sub/\z.from_=z0.from_
 forth:∀ z∈b.ent,z.sub≠e.sub->∃ z'∈s.1.ent,z'.sub=z.sub
 e:oL s.1 A'
 said:Said A s.2 A'
theorem Dp {b:Br} {A:Up} (h:oL b A) {e:En} (he:e∈b.ent):∃ A',AbD b A e (gW b (1,0) e.sub e.from_) A':=by
 obtain⟨g,ups,hT,hA⟩:=Nh h he;have hown:g.own=b.own:=by rw [hA.ent]
 cases hu:e.up with
 | false =>
  obtain⟨rfl,hE⟩:=hA.low hu;have hd:gW b (1,0) e.sub e.from_=(g,[]):=by
   unfold gW;rw [hT,hu]
   rfl
  rw [hd];exact⟨A,hown,hA.gone,hA.back,hA.forth,hE,kI A⟩
 | true =>
  have hd:gW b (1,0) e.sub e.from_=(g,ups.map (mU 1)++[⟨1,4,(1,0),e.sub,[]⟩]):=by
   unfold gW;rw [hT,hu];simp only;rw [h.par]
   rfl
  rw [hd];exact⟨_,hown,hA.gone,hA.back,hA.forth,hA.high hu,JR hA.dis hA.each (hA.JM hu)⟩
theorem JU {b:Br} (hok:gP b) {x:dV} (hn:∀ e∈b.ent,e.sub≠x) (f:Int):gW b (1,0) x f=(b,[]):=by
 have ht:takeB b (1,0) x f=(b,[],aG):=by
  rcases wH hok.ent (1,0) x f with⟨_,q⟩|⟨j,e,hj,hke,_⟩
  ·exact q
  ·exact absurd (congrArg Prod.snd hke) (hn e (aJ hj))
 unfold gW;rw [ht]
 rfl
theorem JV {b:Br} {A:Up} (h:oL b A) {e:En} (he:e∈b.ent) {f:Int} (hf:e.from_≠f):gW b (1,0) e.sub f=(b,[]):=by
 have ht:=JI h.ok.ent he hf;rw [h.tr e he] at ht;unfold gW;rw [ht]
 rfl
theorem Nj {b:Br} {A:Up} (h:Ky b A) {x:dV} {f:Int} (hf:f=2\/f=3):∃ A',Ky (gW b (1,0) x f).1 A'/\Said A (gW b (1,0) x f).2 A':=by
 by_cases hx:∃ e∈b.ent,e.sub=x
 ·obtain⟨e,he,rfl⟩:=hx;by_cases hfe:e.from_=f
  ·obtain⟨A',hD⟩:=Dp h.e he;rw [hfe] at hD;refine⟨A',⟨hD.e,fun z hz hf1=>?_,fun o ho=>?_,fun z hz=>?_⟩,hD.said⟩
   ·obtain⟨z0,q1,q2,q3⟩:=hD.back z hz;rw [hD.own,q2];exact h.mine z0 q1 (q3.symm.trans hf1)
   ·rw [hD.own] at ho;obtain⟨z,q1,q2,q3⟩:=h.theirs o ho;obtain⟨z',r1,r2⟩:=hD.forth z q1 fun q=>by
     rw [h.e.uniq q1 he q,hfe] at q3;rcases hf with r|r <;> (rw [r] at q3; exact absurd q3 (by decide))
    obtain⟨z0,s1,s2,s3⟩:=hD.back z' r1;rw [h.e.uniq s1 q1 (s2.symm.trans r2)] at s3;exact⟨z',r1,r2.trans q2,s3.trans q3⟩
   ·obtain⟨z0,q1,q2,q3⟩:=hD.back z hz;rw [q2,q3];exact h.side z0 q1
  ·rw [JV h.e he hfe];exact⟨A,h,kI A⟩
 ·rw [JU h.e.ok (fun e he q=>hx ⟨e,he,q⟩)];exact⟨A,h,kI A⟩
theorem Nk {b:Br} {A:Up} (h:Ky b A) {x:dV} {f:Int} (hf:f=2\/f=3) (VK:8<=x.1) {p:List C5} (hp:dN p) (hr:Wr.gX p=bf):∃ A',Ky (iG b f (1,0) x p).1 A'/\Said A (iG b f (1,0) x p).2 A':=by
 by_cases hx:∃ e∈b.ent,e.sub=x
 ·obtain⟨e,he,rfl⟩:=hx;have hT:=JN h.e he p f;have:iG b f (1,0) e.sub p=(b,[]):=by
   unfold iG;rw [hT]
   rfl
  rw [this];exact⟨A,h,kI A⟩
 ·have hn:∀ e∈b.ent,e.sub≠x:=fun e he q=>hx ⟨e,he,q⟩;obtain⟨u,he,hE⟩:=Hz h.e (aj hf) hn hp hr;have hm:∀ z,z∈eY b.ent (dY (b.ent.map dM) ((1,0),x)) (⟨(1,0),x,p,f,u⟩:En)↔z=⟨(1,0),x,p,f,u⟩\/z∈b.ent:=fun z=>jf _ _ _ _;have hO:∀ A',oL { b with ent:=eY b.ent (dY (b.ent.map dM) ((1,0),x)) ⟨(1,0),x,p,f,u⟩ } A'->Ky { b with ent:=eY b.ent (dY (b.ent.map dM) ((1,0),x)) ⟨(1,0),x,p,f,u⟩ } A':=fun A' q=>by
   refine⟨q,fun z hz hf1=>?_,fun o ho=>?_,fun z hz=>?_⟩
   ·rcases (hm z).1 hz with rfl|hz
    ·exact absurd (show f=-1 from hf1) (by rcases hf with r | r <;> (rw [r]; decide))
    ·exact h.mine z hz hf1
   ·obtain⟨z,q1,q2⟩:=h.theirs o ho;exact⟨z,(hm z).2 (aj q1),q2⟩
   ·rcases (hm z).1 hz with rfl|hz
    ·exact aj ⟨hf,VK⟩
    ·exact h.side z hz
  cases u with
  | false =>
   have hs:iG b f (1,0) x p=((gY b ⟨(1,0),x,p,f,aG⟩).1,[]):=by
    unfold iG;rw [if_pos (by rw [he])]
   rw [hs,he];exact⟨A,hO A (by simpa using hE),kI A⟩
  | true =>
   have hs:iG b f (1,0) x p=((gY b ⟨(1,0),x,p,f,aG⟩).1,[⟨1,3,(1,0),x,p⟩]):=by
    unfold iG;rw [if_neg (by rw [he]; simp),h.e.par]
    rfl
   rw [hs,he];exact⟨_,hO _ (by simpa using hE),Dn (h.e.none_ hn) hp⟩
theorem QL {b:Br} {A:Up} (h:Ky b A) {x:dV} (hx3:x.1<=3) {p:List C5} (hp:dN p) (hr:Wr.gX p=bf):∃ A',Ky (iX b x p).1 A'/\Said A (iX b x p).2 A':=by
 by_cases hk:(b.own[gQ (b.own.map bG) x]?).map bG=O x
 ·rw [FN hk];exact⟨A,h,kI A⟩
 ·have hno:=tL h.e.ok.own hk;have hn:∀ e∈b.ent,e.sub≠x:=fun e he q=>by
   rcases h.side e he with⟨q1,_⟩|⟨_,q1⟩
   ·obtain⟨o,ho,hoi⟩:=h.mine e he q1;exact hno o ho (hoi.trans q)
   ·rw [q] at q1;omega
  have hi:gP (ownIn b x p):=by
   have hr2:iN bG (eY b.own (gQ (b.own.map bG) x) ⟨x,p⟩):=by
    rw [<- gu];exact Av.kC h.e.ok.own ⟨x,p⟩ hno
   exact⟨h.e.ok.near,h.e.ok.seen,h.e.ok.dW,h.e.ok.ent,hr2,h.e.ok.oks,fun e he=>qb (b:=b) rfl rfl (h.e.ok.Pv e he),fun o ho=>by
    rcases (jf _ _ _ _).1 ho with rfl|ho
    ·exact hr
    ·exact h.e.ok.VA o ho⟩
  have hE0:oL (ownIn b x p) A:=h.e.own hi;obtain⟨u,he,hE⟩:=Hz hE0 (f:=-1) (aX rfl) hn hp hr;have hs:iX b x p=((gY (ownIn b x p) ⟨(1,0),x,p,-1,aG⟩).1,if u=bf then [⟨1,3,(1,0),x,p⟩] else []):=by
   unfold iX;rw [if_neg hk,h.e.dW];show gH (ownIn b x p,[]) (jQ p []) ⟨(1,0),x,p,-1,aG⟩ 1=_;unfold gH;rw [if_neg (by rw [FY hp]; simp),he];cases u <;> rfl
  have hm:∀ z,z∈eY b.ent (dY (b.ent.map dM) ((1,0),x)) (⟨(1,0),x,p,-1,u⟩:En)↔z=⟨(1,0),x,p,-1,u⟩\/z∈b.ent:=fun z=>jf _ _ _ _;rw [hs,he];refine⟨_,⟨hE,fun z hz hf1=>?_,fun o ho=>?_,fun z hz=>?_⟩,?_⟩
  ·rcases (hm z).1 hz with rfl|hz
   ·exact⟨⟨x,p⟩,(jf _ _ _ _).2 (aX rfl),rfl⟩
   ·obtain⟨o,q1,q2⟩:=h.mine z hz hf1;exact⟨o,(jf _ _ _ _).2 (aj q1),q2⟩
  ·rcases (jf _ _ _ _).1 ho with rfl|ho
   ·exact⟨_,(hm _).2 (aX rfl),rfl,rfl⟩
   ·obtain⟨z,q1,q2⟩:=h.theirs o ho;exact⟨z,(hm z).2 (aj q1),q2⟩
  ·rcases (hm z).1 hz with rfl|hz
   ·exact aX ⟨rfl,hx3⟩
   ·exact h.side z hz
  ·cases u with
   | true=>exact Dn (h.e.none_ hn) hp
   | false=>exact kI A
theorem JW {b:Br} {A:Up} (h:Ky b A) (x:dV):∃ A',Ky (fB b x).1 A'/\Said A (fB b x).2 A':=by
 by_cases hk:(jP b x).length=b.own.length
 ·have:fB b x=(b,[]):=by unfold fB; rw [if_pos hk]
  rw [this];exact⟨A,h,kI A⟩
 ·have hex:∃ o∈b.own,o.id=x:=by
   refine Classical.byContradiction fun q=>hk ?_;unfold jP;exact congrArg List.length (aO.2 fun o ho=>decide_eq_true fun r=>q ⟨o,ho,r⟩)
  obtain⟨o,ho,rfl⟩:=hex;obtain⟨e,he,hes,hef⟩:=h.theirs o ho;have hok:gP { b with own:=jP b o.id }:=oq h.e.ok o.id 0 (bH _);obtain⟨A',hD⟩:=Dp (h.e.own hok) (e:=e) he;rw [hes,hef] at hD;have hs:fB b o.id=gW { b with own:=jP b o.id } (1,0) o.id (-1):=by
   have hl:b.dW.length=1:=by rw [h.e.dW]; rfl
   unfold fB;rw [if_neg hk,hl];rw [jC b o.id (k:=0) (a:=⟨(1,0),[],1⟩) (by rw [h.e.dW]; rfl)];unfold nH;show (_,[]++_)=_;rw [List.nil_append]
   rfl
  rw [hs];refine⟨A',⟨hD.e,fun z hz hf1=>?_,fun y hy=>?_,fun z hz=>?_⟩,hD.said⟩
  ·obtain⟨z0,q1,q2,q3⟩:=hD.back z hz;obtain⟨y,r1,r2⟩:=h.mine z0 q1 (q3.symm.trans hf1);rw [hD.own];refine⟨y,aR.2 ⟨r1,decide_eq_true fun q=>hD.gone z hz ?_⟩,r2.trans q2.symm⟩;rw [q2,<- r2,q,hes]
  ·rw [hD.own] at hy;obtain⟨r1,r2⟩:=aR.1 hy;obtain⟨z,q1,q2,q3⟩:=h.theirs y r1;obtain⟨z',s1,s2⟩:=hD.forth z q1 fun q=>of_decide_eq_true r2 (q2.symm.trans (q.trans hes));obtain⟨z0,t1,t2,t3⟩:=hD.back z' s1;rw [h.e.uniq t1 q1 (t2.symm.trans s2)] at t3;exact⟨z',s1,s2.trans q2,t3.trans q3⟩
  ·obtain⟨z0,q1,q2,q3⟩:=hD.back z hz;rw [q2,q3];exact h.side z0 q1
theorem oL.pA {b:Br} {A:Up} (h:oL b A):∀ q∈A,dN q.2:=fun q hq=>by
 obtain⟨e,h1,_,_,h2⟩:=(h.map q.1 q.2).1 hq;rw [<- h2];exact h.pe e h1
structure Nl (A:Up) (n:Nat):Prop where
 pe:∀ q∈A,dN q.2
 nd:(A.map aN).Nodup
 len:A.length<=n
theorem Said.keep {A A':Up} {l:List Ou} {n:Nat} (h:Said A l A') (hA:Nl A n):∀ k,k<=l.length->Nl (jE A l k) (n+k)
 | 0,_=>hA
 | k+1,hk=>by
  obtain⟨o,ho⟩:∃ o,l[k]?=O o:=⟨_,aP hk⟩;have ih:=h.keep hA k (by omega);rw [wI ho];obtain⟨_,_,⟨q1,q2,q3⟩|⟨q1,q2,_⟩⟩:=h.each k o ho
  ·unfold pJ;rw [if_neg (by rw [q1]; decide)];refine⟨fun q hq=>?_,?_,?_⟩
   ·rcases bg.1 hq with r|r
    ·exact ih.pe q r
    ·rw [aS.1 r]; exact q3
   ·rw [bC,bV];refine⟨ih.nd,by simp,fun x hx y hy r=>q2 ?_⟩;have:y=o.id:=by simpa using hy
    rw [<- this,<- r];exact hx
   ·rw [bQ];have:=ih.len;simp only [List.length_singleton];omega
  ·unfold pJ;rw [if_pos q1];refine⟨fun q hq=>ih.pe q (aR.1 hq).1,ih.nd.sublist (List.filter_sublist.map _),?_⟩;have:=ih.len;have:=List.length_filter_le (fun q:dV×List C5=>decide (q.1≠o.id)) (jE A l k);omega
theorem oL.QM {b:Br} {A:Up} (h:oL b A):Nl A b.ent.length:=⟨h.pA,h.nd,h.fewer⟩
theorem Said.ended {A A':Up} {l:List Ou} (h:Said A l A') {k:Nat} {o:Ou} (ho:l[k]?=O o) (h4:o.kind=4):jE A l (k+1)=A':=by
 obtain⟨_,_,⟨q1,_⟩|⟨_,_,q⟩⟩:=h.each k o ho
 ·rw [q1] at h4;exact absurd (show (3:Int)=4 from h4) (by decide)
 ·rw [q];exact h.all
structure Lens (b:Br) (s:Br×List Ou) (n m:Nat):Prop where
 ent:s.1.ent.length<=b.ent.length+n
 own:s.1.own.length<=b.own.length+1
 out:s.2.length<=m
theorem Dq (b:Br) (x:dV) (p:List C5):Lens b (iX b x p) b.dW.length b.dW.length:=by
 unfold iX
 split
 ·exact⟨Nat.le_add_right _ _,Nat.le_succ _,bH _⟩
 ·obtain⟨h1,_,h3⟩:=pF (b0:=ownIn b x p) (o0:=[]) (fun a=>jQ p a.p) (fun a=>nJ x p a) (fun a=>a.par) (fun _=>True) (fun _ _=>trivial) (fun _ _ _=>trivial) b.dW.length (aT _);refine⟨h1.len,?_,by simpa using h3⟩;rw [h1.own];exact Nat.le_of_eq (za _ _ _)
theorem wJ (b:Br) (x:dV):Lens b (fB b x) 0 (b.dW.length * (b.ent.length+1)):=by
 unfold fB
 split
 ·exact⟨aT _,Nat.le_succ _,bH _⟩
 ·obtain⟨h1,h2⟩:=nI b x b.dW.length (aT _);refine⟨h1.len,?_,h2⟩;rw [h1.own];exact Nat.le_succ_of_le (List.length_filter_le _ _)
theorem Dr (b:Br) (t x:dV) (f:Int):Lens b (gW b t x f) 0 (b.ent.length+1):=by
 refine⟨?_,?_,zi b t x f⟩
 ·rw [iM];exact (lG b t x f).1
 ·rw [iM,(lF b t x f).2.2.2.2];exact Nat.le_succ _
theorem Dt (b:Br) (f:Int) (t x:dV) (p:List C5):Lens b (iG b f t x p) 1 1:=by
 refine⟨?_,?_,?_⟩
 ·rw [ko];exact Dl b _
 ·rw [ko,(lC b _).2.2.2.2];exact Nat.le_succ _
 ·unfold iG
  split
  ·exact bH _
  ·split
   ·exact bH _
   ·exact aT _
def fU (b:Br) (par:Int) (e:En):Br×List Ou:=((gY b e).1,if (gY b e).2=bf then [mU par e] else [])
def gG (b:Br) (par:Int) (t x:dV) (f:Int):Br×List Ou:=((takeB b t x f).1,if (takeB b t x f).2.2=bf then (takeB b t x f).2.1.map (mU par)++[⟨par,4,t,x,[]⟩] else [])
def gT (b:Br) (t:dV):Int:=match fM b.dW t with | some a=>a.par | none=>0
theorem Nn {b:Br} (hok:gP b) {k:Nat} {a:Ad} (ha:b.dW[k]?=O a):gT b a.id=a.par:=by
 unfold gT;rw [og hok.dW (aJ ha)]
theorem zC {b:Br} (hok:gP b) {t:dV} {a:Ad} (h:fM b.dW t=O a):b.dW[(fH (b.dW.map Ad.id) t).toNat]?=O a:=by
 obtain⟨h1,h2⟩:=Fa h;obtain⟨k,hk⟩:=aM.1 h1;subst h2;exact zA hok hk
theorem Du {b:Br} (hok:gP b) (f:Int) (t x:dV) (p:List C5):iG b f t x p=fU b (gT b t) ⟨t,x,p,f,aG⟩:=by
 unfold iG fU;cases hu:(gY b ⟨t,x,p,f,aG⟩).2 with
 | false=>rfl
 | true =>
  have hf:∃ a,fM b.dW t=O a:=by
   rw [<- mJ hok.ent] at hu;unfold x9 at hu;cases hq:fM b.dW t with
   | none=>rw [show (En.tree ⟨t,x,p,f,aG⟩)=t from rfl,hq] at hu; cases hu
   | some a=>exact⟨a,rfl⟩
  obtain⟨a,ha⟩:=hf;unfold gT;rw [zC hok ha,ha]
  rfl
theorem wK {b:Br} (hok:gP b) (t x:dV) (f:Int):gW b t x f=gG b (gT b t) t x f:=by
 unfold gW gG;cases hu:(takeB b t x f).2.2 with
 | false=>rfl
 | true =>
  obtain⟨e,he,ht⟩:=Fj hu;have h1:=hok.Pv e he;unfold xW at h1;rw [ht] at h1;unfold gT;cases hq:fM b.dW t with
  | none=>rw [hq] at h1; cases h1
  | some a =>
   rw [zC hok hq]
   rfl
theorem F5 (x:dV) (p:List C5) (s:Br×List Ou) (a:Ad):kQ x p s a=if jQ p a.p=aG then s else ((fU s.1 a.par (nJ x p a)).1,s.2++(fU s.1 a.par (nJ x p a)).2):=by
 unfold kQ gH fU
 split
 ·rfl
 ·dsimp only
  split
  ·rfl
  ·rw [List.append_nil]
theorem Dv {s:Br×List Ou} (hok:gP s.1) {k:Nat} {a:Ad} (ha:s.1.dW[k]?=O a) (x:dV):nH x s a.id=((gG s.1 a.par a.id x (-1)).1,s.2++(gG s.1 a.par a.id x (-1)).2):=by
 unfold nH;rw [wK hok,Nn hok ha]
theorem AA {l:List Ow} (hr:iN bG l) {x:dV} (h:fO bG l x=bf):l.filter (fun o=>decide (o.id≠x))=cutAt l (eG bG l x):=by
 unfold fO at h;cases hy:l[eG bG l x]? with
 | none=>rw [hy] at h; cases h
 | some y =>
  rw [hy] at h;have hyx:y.id=x:=of_decide_eq_true h;generalize eG bG l x=k at *;have hlt:=(aH.1 hy).1;have e:l=l.take k++y::l.drop (k+1):=by
   conv=>lhs; rw [<- List.take_append_drop k l]
   rw [cZ hlt,(aH.1 hy).2]
  have hne:∀ j z,j≠k->l[j]?=O z->z.id≠x:=fun j z hj hz q=>by
   rcases Nat.lt_or_gt_of_ne hj with h1|h1
   ·have:=jy hr h1 hz hy;rw [q,hyx,iV] at this; cases this
   ·have:=jy hr h1 hy hz;rw [q,hyx,iV] at this; cases this
  unfold cutAt
  conv=>lhs; rw [e]
  rw [List.filter_append,bU (by simp [hyx])];rw [aO.2 fun z hz=>?_,aO.2 fun z hz=>?_]
  ·obtain⟨j,hj⟩:=aM.1 hz;rw [List.getElem?_drop] at hj;exact decide_eq_true (hne _ z (by omega) hj)
  ·obtain⟨j,hj⟩:=aM.1 hz;have hjl:=(aH.1 hj).1;rw [bY] at hjl;rw [dw (by omega)] at hj;exact decide_eq_true (hne j z (by omega) hj)
theorem Np {l:List Ow} (hr:iN bG l) {x:dV} (h:fO bG l x=aG):l.filter (fun o=>decide (o.id≠x))=l:=by
 rw [sK hr] at h;refine aO.2 fun o ho=>?_;have:=of_decide_eq_false h;exact decide_eq_true fun q=>this (aI.2 ⟨o,ho,q⟩)
theorem F6 {b:Br} {x:dV} (p:List C5) (h:fO bG b.own x=bf):iX b x p=(b,[]):=by
 unfold fO at h;rw [gu] at h;unfold iX;cases hy:b.own[gQ (b.own.map bG) x]? with
 | none=>rw [hy] at h; cases h
 | some y =>
  rw [hy] at h;rw [if_pos (show Option.map bG (O y)=O x from congrArg O (of_decide_eq_true h))]
theorem Nq {b:Br} {x:dV} (p:List C5) (h:fO bG b.own x=aG):iX b x p=iy b.dW (kQ x p) (ownIn b x p,[]) b.dW.length:=by
 unfold fO at h;rw [gu] at h;unfold iX;rw [if_neg];intro q;cases hy:b.own[gQ (b.own.map bG) x]? with
 | none=>rw [hy] at q; cases q
 | some y =>
  rw [hy] at h q;exact absurd (aQ q) (of_decide_eq_false h)
theorem F7 {b:Br} (hok:gP b) {x:dV} (h:fO bG b.own x=aG):fB b x=(b,[]):=by
 unfold fB;rw [if_pos];unfold jP;rw [Np hok.own h]
theorem rU {l:List Ow} {x:dV} (h:fO bG l x=bf):eG bG l x<l.length:=by
 unfold fO at h;cases hy:l[eG bG l x]? with
 | none=>rw [hy] at h; cases h
 | some y=>exact (aH.1 hy).1
theorem AQ {b:Br} (hok:gP b) {x:dV} (h:fO bG b.own x=bf):fB b x=gy b x b.dW.length/\jP b x=cutAt b.own (eG bG b.own x):=by
 have e:=AA hok.own h;refine⟨?_,e⟩;unfold fB;rw [if_neg];show ¬ (b.own.filter fun o=>decide (o.id≠x)).length=b.own.length;rw [e];have:=rU h;unfold cutAt;rw [bQ,bY,List.length_drop];omega
structure SuI (b0 b:Br) (k:Nat):Prop where
 at_:M9 b0 b k
 ok:gP b
 pe:∀ e∈b.ent,dN e.p
theorem Nr {b:Br} (h:gP b) {x:dV} {p:List C5} (hq:Wr.gX p=bf) (hx:fO bG b.own x=aG):gP (ownIn b x p):=by
 have hn:∀ y∈b.own,y.id≠x:=fun y hy q=>by
  rw [sK h.own] at hx;exact of_decide_eq_false hx (aI.2 ⟨y,hy,q⟩)
 have hr:iN bG (eY b.own (gQ (b.own.map bG) x) ⟨x,p⟩):=by
  rw [<- gu];exact kC h.own ⟨x,p⟩ hn
 exact⟨h.near,h.seen,h.dW,h.ent,hr,h.oks,fun e he=>qb (b:=b) rfl rfl (h.Pv e he),fun o ho=>by
  rcases (jf _ _ _ _).1 ho with rfl|ho
  ·exact hq
  ·exact h.VA o ho⟩
theorem UD {b:Br} {x:dV} {p:List C5} (hok:gP (ownIn b x p)) (pe:∀ e∈b.ent,dN e.p) (pp:dN p) (hq:Wr.gX p=bf) (k:Nat) (hk:k<=b.dW.length):SuI (ownIn b x p) (iy b.dW (kQ x p) (ownIn b x p,[]) k).1 k/\(iy b.dW (kQ x p) (ownIn b x p,[]) k).2.length<=k:=by
 obtain⟨h1,h2,h3⟩:=pF (l:=b.dW) (b0:=ownIn b x p) (o0:=[]) (fun a=>jQ p a.p) (fun a=>nJ x p a) (fun a=>a.par) (fun e=>dN e.p) pe (fun a _ _=>pp) k hk;exact⟨⟨h1,uS gP hok (fun s a _ hs=>step_ok hs _ _ _ (tK _) hq) k hk,h2⟩,by simpa using h3⟩
end Rt
namespace Rt
open Go.RowKit Go.Sort Rw YtghlpefopidlaaaGreat.Nm Pr Bk Av Rl Sb Go.Maps Go.ChangeMaps
abbrev Kz:TypeId:=61
def QN:aU->Option (DataW Sl×List MemPlace)
 | J a n c=>O (.held (a,n,c),[])
 | _=>Y
theorem Ia {v:aU} {y:DataW Sl×List MemPlace} (h:QN v=O y):∃ s:Sl,v=dQ s/\y=(.held s,[]):=by
 unfold QN at h
 split at h
 ·cases h; exact⟨(_,_,_),rfl,rfl⟩
 ·cases h
theorem Ns (s:Sl):QN (dQ s)=O (.held s,[]):=rfl
theorem WZ (w:aA):(zeroValue 34).run aB w=.ok (dQ (Y,0,0)) w:=by kernel_rfl
structure Xa (W:aA) (A:Up) (D:DataW Sl):Prop where
 ok:∀ q∈A,qM q.1
 nd:(A.map aN).Nodup
 at_:∀ q∈A,∃ s:Sl,D.atKey (kl q.1) .nil=.held s/\fF W (dQ s) q.2
 has:∀ l,qM l->Maps.has D (kl l)=decide (l∈A.map aN)
 sz:Maps.size D=A.length
 only:∀ κ,Maps.has D κ=bf->∃ q∈A,κ=kl q.1
theorem Xa.rows {W W':aA} {A:Up} {D:DataW Sl} (h:Xa W A D) (hr:∀ (v:aU) (p:List C5),fF W v p->fF W' v p):Xa W' A D :=
 ⟨h.ok,h.nd,fun q hq=>by obtain⟨s,h1,h2⟩:=h.at_ q hq; exact⟨s,h1,hr _ _ h2⟩,h.has,h.sz,h.only⟩
def iq (W:aA) (b:Nat) (A:Up):Prop:=∃ D:DataW Sl,W.ownsMap aB 23 QN b A.length D/\Xa W A D
theorem zD {W:aA} {b n:Nat} {D:DataW Sl} (h:W.ownsMap aB 23 QN b n D):W.ownsMap aB 23 QN b (Maps.size D) D:=by
 obtain⟨es,clock,hb,F,hs,rfl⟩:=h;exact⟨es,clock,hb,F,by simp [Maps.size,length_sorted],rfl⟩
theorem iq.made (w:aA):iq (w.alloc (.map #[] 0)) w.heap.size [] :=
 ⟨.map [],World.ownsMap_made _ _ _ _,by simp,by simp,by simp,fun l _=>by simp [Maps.has],rfl,fun κ h=>by simp [Maps.has] at h⟩
theorem iq.lt {W:aA} {b:Nat} {A:Up} (h:iq W b A):b<W.heap.size:=by
 obtain⟨D,h2,_⟩:=h;exact h2.lt
def Dw (W:aA) (b:Nat):Prop:=∃ es clock,W.heap[b]?=O (.map es clock)
theorem iq.Xb {W:aA} {b:Nat} {A:Up} (h:iq W b A):Dw W b:=by
 obtain⟨D,⟨es,clock,h2,_⟩,_⟩:=h;exact⟨es,clock,h2⟩
theorem Dw.Nt {W:aA} {b c:Nat} {cs:Array aU} {t:TypeId} (h:Dw W b) (hb:dG W c cs t):c≠b:=by
 rintro rfl;obtain⟨es,clock,h2⟩:=h;unfold dG at hb;rw [h2] at hb;cases hb
theorem Dw.noCell {W:aA} {b:Nat} (h:Dw W b) {a:aF} {v:aU} (hc:W.cell? a=O v):a.block≠b:=by
 rintro rfl;obtain⟨es,clock,h2⟩:=h;unfold World.cell? at hc;rw [h2] at hc;simp at hc
theorem Dw.Xc {α:Type} {E:Ek α} {W:aA} {b:Nat} (h:Dw W b) (hE:∀ c:α,∃ v,(E.cells c)[0]?=O v) (a:aF) (c:α) (hc:∀ j u,(E.cells c)[j]?=O u->W.cell? (a.add j)=O u):a.block≠b:=by
 obtain⟨v,hv⟩:=hE c;have:=h.noCell (hc 0 v hv)
 rwa [nX] at this
theorem Dw.row {α:Type} {E:Ek α} (K:E.Ok) {W W':aA} {b:Nat} (h:Dw W b) (hE:∀ c:α,∃ v,(E.cells c)[0]?=O v) (hk:But b W W') {v:aU} {l:List α} (hr:Row E W v l):Row E W' v l:=jh K hr hk.1 (h.Xc hE)
theorem Dw.F8 {W W':aA} {b:Nat} (h:Dw W b) (hk:But b W W') {v:aU} {l:List C5} (hr:fF W v l):fF W' v l:=h.row qZ (fun _c=>⟨_,rfl⟩) hk hr
theorem Dw.box {W W':aA} {b c:Nat} {cs:Array aU} {t:TypeId} (h:Dw W b) (hk:But b W W') (hb:dG W c cs t):dG W' c cs t:=hk.box hb (h.Nt hb)
theorem Dw.outs {W W':aA} {b:Nat} (h:Dw W b) (hk:But b W W') {s:Sl} {l:List Ou} (ho:lM W s l):lM W' s l:=by
 obtain⟨lx,h1,h2⟩:=ho;exact⟨lx,h.row Pq (fun c=>⟨_,rfl⟩) hk h1,h2.mono fun _ _ q=>⟨q.1,q.2.1,q.2.2.1,q.2.2.2.1,h.F8 hk q.2.2.2.2.1,q.2.2.2.2.2⟩⟩
theorem Dw.brn {W W':aA} {m:Nat} {b:Br} {nv av sv ev ov:Sl} (hm:Dw W m) (hk:But m W W') (h:mR W b nv av sv ev ov):mR W' b nv av sv ev ov:=by
 obtain⟨B,hn⟩:=h.no;have hn2:uH W' B (dQ nv) b.near:=by
  refine⟨hn.1,?_⟩;rcases hn.2 with h2|⟨g',cap,cur,h1,h2,h3,h4⟩
  ·exact aX h2
  ·exact aj ⟨g',cap,cur,h1,h2,by rw [hk.1 g' (lt_of_heap h3) (hm.Nt (show dG W g' cur _ from h3))]; exact h3,h4⟩
 refine⟨⟨Row.dH hn2,?_,hm.row BU (fun c=>⟨_,rfl⟩) hk h.br.seen,?_,?_⟩,B,hn2⟩
 ·obtain⟨l,h1,h2⟩:=h.br.dW;exact⟨l,hm.row okD (fun c=>⟨_,rfl⟩) hk h1,h2.mono fun x a hx=>⟨hx.1,hx.2.1,hm.F8 hk hx.2.2⟩⟩
 ·obtain⟨l,h1,h2⟩:=h.br.ent;exact⟨l,hm.row lY (fun c=>⟨_,rfl⟩) hk h1,h2.mono fun x a hx=>⟨hx.1,hx.2.1,hx.2.2.1,hx.2.2.2.1,hm.F8 hk hx.2.2.2.2⟩⟩
 ·obtain⟨l,h1,h2⟩:=h.br.own;exact⟨l,hm.row okW (fun c=>⟨_,rfl⟩) hk h1,h2.mono fun x a hx=>⟨hx.1,hm.F8 hk hx.2⟩⟩
theorem zF {W W':aA} {b n:Nat} {D:DataW Sl} (h:W.ownsMap aB 23 QN b n D) (hb:W'.heap[b]?=W.heap[b]?):W'.ownsMap aB 23 QN b n D:=by
 obtain⟨es,clock,h2,r⟩:=h;exact⟨es,clock,by rw [hb]; exact h2,r⟩
theorem iq.on {W W':aA} {b:Nat} {A:Up} (h:iq W b A) (hb:Below W.heap.size W W'):iq W' b A:=by
 have hl:=h.lt;obtain⟨D,h2,h3⟩:=h;exact⟨D,zF h2 (hb.block _ hl),h3.rows fun _ _ q=>q.on hb⟩
theorem iq.keep {W W':aA} {b k:Nat} {A:Up} {cs:Array aU} {t:TypeId} (h:iq W b A) (hb:dG W k cs t) (ht:∀ (j:Nat) (s:ByteArray),cs[j]?≠O (.string s)) (hk:But k W W'):iq W' b A:=by
 have hl:=h.lt;have hne:=h.Xb.Nt hb;obtain⟨D,h2,h3⟩:=h;exact⟨D,zF h2 (hk.1 _ hl hne.symm),h3.rows fun _ _ q=>jh qZ q hk.1 (rA hb ht)⟩
theorem iq.AX {W W':aA} {b k:Nat} {A:Up} {me:Int} {s1 s2 s3 s4 s5:Sl} (h:iq W b A) (hb:dG W k (nV me s1 s2 s3 s4 s5) 30) (hk:But k W W'):iq W' b A:=h.keep hb (rD me s1 s2 s3 s4 s5) hk
theorem iq.look {W:aA} {b:Nat} {A:Up} (h:iq W b A) (l:dV) (hl:qM l):∃ s:Sl,(Instr.lookup Kz (.map (O b)) (oK l) bf).run aB W=.ok (.tuple #[dQ s,aY (decide (l∈A.map aN))]) W:=by
 obtain⟨D,h2,h3⟩:=h;obtain⟨v,ps,hr,hv⟩:=h2.look_ok law bI (WZ W) (Ns _) (yO l hl);rw [h3.has l hl] at hr;obtain⟨s,rfl,_⟩:=Ia hv;exact⟨s,hr⟩
theorem iq.count {W:aA} {b:Nat} {A:Up} (h:iq W b A) (ty:TypeId):(Builtin.len_ #[Kz] ty #[.map (O b)]).run aB W=.ok (U X (A.length:Nat)) W:=by
 obtain⟨D,h2,h3⟩:=h;rw [h2.len bI ty,h3.sz]
theorem F9 (l:dV) (h:qM l):WideAt.IsKeyLit (kl l):=law.key (yO l h)
theorem iq.put {W:aA} {b:Nat} {A:Up} (h:iq W b A) (l:dV) (hl:qM l) (hn:l ∉ A.map aN) (s:Sl) (p:List C5) (hp:fF W (dQ s) p) (hs:A.length<1000000) :
  ∃ W',(Instr.mapUpdate Kz (.map (O b)) (oK l) (dQ s)).run aB W=.ok () W'/\iq W' b (A++[(l,p)])/\W.grownBy W' (O b):=by
 have hm:=h.Xb;obtain⟨D,h2,h3⟩:=h;obtain⟨W',hr,ho,ht⟩:=h2.store law bI (by unfold maxLen; omega) (yO l hl) (Ns s);have hk:=jJ ht.grown;have hi:=h2.isMap;have hz:=Maps.size_put (h2.tidy law) (k:=kl l) (.held s);rw [h3.has l hl,decide_eq_false hn,if_neg (by simp)] at hz;refine⟨W',hr,⟨D.put (kl l) (.held s),?_,?_⟩,ht.grown⟩
 ·have:=zD ho;rw [hz,h3.sz] at this;simpa using this
 ·refine⟨fun q hq=>?_,?_,fun q hq=>?_,fun m hm2=>?_,by rw [hz,h3.sz]; simp,fun κ hκ=>?_⟩
  ·rcases bg.1 hq with hq|hq
   ·exact h3.ok q hq
   ·rw [aS.1 hq]; exact hl
  ·rw [bC,bV];refine⟨h3.nd,by simp,fun a ha c hc e=>?_⟩;simp only [bF,bK,aS] at hc;subst hc;exact hn (e ▸ ha)
  ·rcases bg.1 hq with hq|hq
   ·obtain⟨s',h4,h5⟩:=h3.at_ q hq;have hne:kl q.1≠kl l:=fun e=>hn (aI.2 ⟨q,hq,vV (h3.ok q hq) hl e⟩);exact⟨s',by rw [atKey_put_other hne]; exact h4,hm.F8 hk h5⟩
   ·rw [aS.1 hq];exact⟨s,atKey_put_same hi (F9 l hl) _ _,hm.F8 hk hp⟩
  ·by_cases e:m=l
   ·subst e;rw [Maps.has_put_same hi (F9 m hm2),decide_eq_true (by simp)]
   ·rw [Maps.has_put_other (fun h=>e (vV hm2 hl h)),h3.has m hm2];exact bN.2 (by simp [e])
  ·by_cases e:κ=kl l
   ·exact⟨(l,p),by simp,e⟩
   ·rw [Maps.has_put_other e] at hκ;obtain⟨q,hq,h4⟩:=h3.only κ hκ;exact⟨q,bJ _ hq,h4⟩
theorem pK:∀ {A:Up} {l:dV},(A.map aN).Nodup->l∈A.map aN->(A.filter fun q=>decide (q.1≠l)).length+1=A.length
 | [],_,_,h=>by simp at h
 | q::A,l,hd,h=>by
  have hd':=cO.1 (show (q.1::A.map aN).Nodup from hd);by_cases e:q.1=l
  ·rw [bU (by simp [e]),show A.filter (fun q=>decide (q.1≠l))=A from aO.2 fun z hz=>decide_eq_true fun e2=>hd'.1 (by rw [e,<- e2]; exact aI.2 ⟨z,hz,rfl⟩)]
   rfl
  ·rw [List.filter_cons_of_pos (by simp [e]),dz,dz,pK hd'.2 ((cu.1 h).resolve_left fun e2=>e e2.symm)]
theorem zG:∀ {A:Up} {x y:dV×List C5},(A.map aN).Nodup->x∈A->y∈A->x.1=y.1->x=y
 | [],_,_,_,h,_,_=>by simp at h
 | q::A,x,y,hd,hx,hy,e=>by
  have hd':=cO.1 (show (q.1::A.map aN).Nodup from hd);rcases cu.1 hx with h1|h1
  ·rcases cu.1 hy with h2|h2
   ·rw [h1,h2]
   ·exact (hd'.1 (by rw [<- h1,e]; exact aI.2 ⟨y,h2,rfl⟩)).elim
  ·rcases cu.1 hy with h2|h2
   ·exact (hd'.1 (by rw [<- h2,<- e]; exact aI.2 ⟨x,h1,rfl⟩)).elim
   ·exact zG hd'.2 h1 h2 e
theorem iq.del {W:aA} {b:Nat} {A:Up} (h:iq W b A) (l:dV) (hl:qM l) (hin:l∈A.map aN) (ty:TypeId) :
  ∃ W',(Builtin.delete_ #[Kz,23] ty #[.map (O b),oK l]).run aB W=.ok (.tuple #[]) W'/\iq W' b (A.filter fun q=>decide (q.1≠l))/\W.grownBy W' (O b):=by
 have hm:=h.Xb;obtain⟨D,h2,h3⟩:=h;obtain⟨W',hr,ho,ht⟩:=h2.drop law bI (yO l hl) ty;have hk:=jJ ht.grown;have hz:=Maps.size_del (h2.tidy law) (k:=kl l);rw [h3.has l hl,decide_eq_true hin,if_pos rfl,h3.sz] at hz;have hf:=pK h3.nd hin;have hmem:∀ m,m∈(A.filter fun q=>decide (q.1≠l)).map aN↔m∈A.map aN/\m≠l:=fun m=>by
  constructor
  ·intro hm0;obtain⟨q,hq0,rfl⟩:=aI.1 hm0;obtain⟨h4,h5⟩:=aR.1 hq0;exact⟨aI.2 ⟨q,h4,rfl⟩,of_decide_eq_true h5⟩
  ·rintro⟨hm0,hne⟩;obtain⟨q,hq0,rfl⟩:=aI.1 hm0;exact aI.2 ⟨q,aR.2 ⟨hq0,decide_eq_true hne⟩,rfl⟩
 refine⟨W',hr,⟨D.del (kl l),?_,?_⟩,ht.grown⟩
 ·have:=zD ho;rw [show Maps.size (D.del (kl l))=(A.filter fun q=>decide (q.1≠l)).length from by omega] at this;exact this
 ·refine⟨fun q hq=>h3.ok q (aR.1 hq).1,?_,fun q hq=>?_,fun m hm2=>?_,by omega,fun κ hκ=>?_⟩
  ·exact h3.nd.sublist (List.Sublist.map _ List.filter_sublist)
  ·obtain⟨hq1,hq2⟩:=aR.1 hq;obtain⟨s',h4,h5⟩:=h3.at_ q hq1;have hne:kl q.1≠kl l:=fun e=>(of_decide_eq_true hq2) (vV (h3.ok q hq1) hl e);exact⟨s',by rw [atKey_del_other hne]; exact h4,hm.F8 hk h5⟩
  ·by_cases e:m=l
   ·subst e;rw [Maps.has_del_same,decide_eq_false fun q=>((hmem m).1 q).2 rfl]
   ·rw [Maps.has_del_other (fun h=>e (vV hm2 hl h)),h3.has m hm2];exact bN.2 (by rw [decide_eq_true_eq,decide_eq_true_eq,hmem]; exact⟨fun q=>⟨q,e⟩,fun q=>q.1⟩)
  ·by_cases e:κ=kl l
   ·rw [e,Maps.has_del_same] at hκ; cases hκ
   ·rw [Maps.has_del_other e] at hκ;obtain⟨q,hq,h4⟩:=h3.only κ hκ;exact⟨q,aR.2 ⟨hq,decide_eq_true fun e2=>e (by rw [h4,e2])⟩,h4⟩
structure qw (W:aA) (b r:Nat) (A:Up) (left:Lit->Bool) (cnt:Nat):Prop where
 mk::(ex:∃ D:DataW Sl,W.ranges aB 23 QN b r A.length D left cnt/\Xa W A D)
theorem iq.range {W:aA} {b:Nat} {A:Up} (h:iq W b A):∃ (W':aA) (left:Lit->Bool) (cnt:Nat),(Instr.range Kz (.map (O b))).run aB W=.ok (Z (O ⟨W.heap.size,0,Y⟩)) W'/\qw W' b W.heap.size A left cnt/\(∀ q∈A,left (kl q.1)=bf)/\Below W.heap.size W W'/\W'.heap.size=W.heap.size+1:=by
 obtain⟨D,h2,h3⟩:=h;obtain⟨W',hr,hg,hb,hs⟩:=h2.range law bI;have hB:Below W.heap.size W W':=(ay _ _).grown hb (aT _) (fun j hj=>by cases hj);exact⟨W',_,_,hr,⟨⟨D,hg,h3.rows fun _ _ q=>q.on hB⟩⟩,fun q hq=>by rw [h3.has q.1 (h3.ok q hq)]; exact decide_eq_true (aI.2 ⟨q,hq,rfl⟩),hB,hs⟩
theorem qw.on {W W':aA} {b r:Nat} {A:Up} {left:Lit->Bool} {cnt:Nat} (h:qw W b r A left cnt) (hb:Below W.heap.size W W'):qw W' b r A left cnt:=by
 obtain⟨D,h1,h2⟩:=h.ex;have l1:=h1.owns.lt;have l2:=h1.lt;obtain⟨es,clock,since,seen,c0,k1,F,hs,hD,hr,rest⟩:=h1;exact⟨⟨D,⟨es,clock,since,seen,c0,(hb.block b l1).trans k1,F,hs,hD,(hb.block r l2).trans hr,rest⟩,h2.rows fun _ _ q=>q.on hb⟩⟩
theorem qw.next {W:aA} {b r:Nat} {A:Up} {left:Lit->Bool} {cnt:Nat} (h:qw W b r A left cnt) (ty:TypeId) :
  ((∀ q∈A,left (kl q.1)=aG)/\(Instr.next (Z (O ⟨r,0,Y⟩)) aG ty).run aB W=.ok (.tuple #[aY aG]) W) \/
  ∃ (q:dV×List C5) (key:aU) (s:Sl) (W':aA) (left':Lit->Bool) (cnt':Nat),q∈A/\fF W' (dQ s) q.2/\(Instr.next (Z (O ⟨r,0,Y⟩)) aG ty).run aB W=.ok (.tuple #[aY bf,key,dQ s]) W'/\(Instr.entry (Z (O ⟨r,0,Y⟩))).run aB W'=.ok (.tuple #[key,dQ s]) W' /\
   qw W' b r A left' cnt'/\cnt'<cnt/\(∀ z∈A,left' (kl z.1)=aG↔z=q\/left (kl z.1)=aG)/\(∀ B W0,B<=r->Below B W0 W->Below B W0 W')/\But r W W':=by
 obtain⟨D,h1,h2⟩:=h.ex;have jc:∃ m s sn c,W.heap[r]?=O (.mapIter m s sn c):=by
  obtain⟨es,clock,since,seen,c0,_,_,_,_,hr,_⟩:=h1;exact⟨_,_,_,_,hr⟩
 rcases h1.next law ty with⟨_,ha,hr⟩|⟨key,v,k',y,W',cnt',_,hl,hv,hat,hr,hg,hc,hgr,hsz,hen⟩
 ·exact aX ⟨fun q _=>ha _,hr⟩
 ·obtain⟨s,rfl,rfl⟩:=Ia hv;obtain⟨q,hq,rfl⟩:=h2.only k' (Maps.has_true_of_atKey hat);obtain⟨s',h4,h5⟩:=h2.at_ q hq;have es:s'=s:=by
   have:=(hat .nil).symm.trans h4;injection this with this
   exact this.symm
  subst es;have hk:But r W W':=jJ hgr;have hrow:∀ (v:aU) (p:List C5),fF W v p->fF W' v p:=fun v p hp=>jh qZ hp hk.1 fun a c hcc=>by
   have h0:=hcc 0 _ rfl;intro e;obtain⟨m,s,sn,c1,hr2⟩:=jc;have e2:(a.add 0).block=r:=by rw [nX]; exact e
   unfold World.cell? at h0;rw [e2,hr2] at h0;simp at h0
  refine aj ⟨q,key,s',W',_,cnt',hq,hrow _ _ h5,hr,hen,⟨⟨D,hg,h2.rows hrow⟩⟩,hc,fun z hz=>?_,fun B W0 hB h0=>h0.grown hgr (by have:=h1.lt; omega) (fun j hj=>by cases hj; exact hB),hk⟩;by_cases e:z=q
  ·subst e;rw [WideAt.sameKey_self (F9 z.1 (h2.ok z hz))];simp
  ·have hne:kl z.1≠kl q.1:=fun e2=>e (by
    have e3:=vV (h2.ok z hz) (h2.ok q hq) e2;exact zG h2.nd hz hq e3)
   rw [Maps.sameKey_ne hne];simp [e]
theorem qw.left_eq {W:aA} {b r:Nat} {A:Up} {left:Lit->Bool} {cnt:Nat} (h:qw W b r A left cnt):W.rangeLeft b r=cnt:=by
 obtain⟨D,h1,_⟩:=h.ex;exact h1.left_eq
theorem left_step {A:Up} {l l':Lit->Bool} {q:dV×List C5} (f:dV×List C5->Bool) (hq:q∈A) (h:∀ z∈A,l' (kl z.1)=aG↔z=q\/l (kl z.1)=aG):A.any (fun z=>!l' (kl z.1) && f z)=(A.any (fun z=>!l (kl z.1) && f z) || f q):=by
 rw [bN,Bool.or_eq_true,bZ,bZ];constructor
 ·rintro⟨z,hz,h1⟩;rw [dB] at h1;rcases (h z hz).1 (by simpa using h1.1) with rfl|h2
  ·exact aj h1.2
  ·exact aX ⟨z,hz,by rw [h2,h1.2]; rfl⟩
 ·rintro (⟨z,hz,h1⟩|h1)
  ·rw [dB] at h1;exact⟨z,hz,by rw [(h z hz).2 (aj (by simpa using h1.1)),h1.2]; rfl⟩
  ·exact⟨q,hq,by rw [(h q hq).2 (aX rfl),h1]; rfl⟩
theorem wL {A:Up} {l:Lit->Bool} (f:dV×List C5->Bool) (h:∀ z∈A,l (kl z.1)=bf):A.any (fun z=>!l (kl z.1) && f z)=aG:=by
 rw [List.any_eq_false];intro z hz;rw [h z hz];simp
theorem zH {A:Up} {l:Lit->Bool} (f:dV×List C5->Bool) (h:∀ z∈A,l (kl z.1)=aG):A.any (fun z=>!l (kl z.1) && f z)=A.any f:=by
 rw [bN,bZ,bZ];constructor
 ·rintro⟨z,hz,h1⟩;exact⟨z,hz,(dB _ _ ▸ h1).2⟩
 ·rintro⟨z,hz,h1⟩;exact⟨z,hz,by rw [h z hz,h1]; rfl⟩
structure UF (A:Up) (l:Lit->Bool):Prop where
 no:∀ q∈A,l (kl q.1)=aG
structure Xd (w:aA) (b r:Nat) (A:Up) (l:Lit->Bool) (cnt:Nat) (key v:aU) (w':aA):Prop where
 en:(Instr.entry (Z (O ⟨r,0,Y⟩))).run aB w'=.ok (.tuple #[key,v]) w'
 ex:∃ q∈A,∃ (l':Lit->Bool) (cnt':Nat),fF w' v q.2/\qw w' b r A l' cnt'/\cnt'<cnt/\∀ z∈A,l' (kl z.1)=aG↔z=q\/l (kl z.1)=aG
 qm:∀ B W0,B<=r->Below B W0 w->Below B W0 w'
section
variable (w:aA) {ops:Array Oper} {rest:List Oper} {o:Oper} {a:Act} {Q:Exit->Act->aA->Prop}
theorem pO (hg:o.guard=Y) (m:Operand) (hop:o.op=Op.range Kz m) (b:Nat) (A:Up) (hm:a.eval m=.map (O b)) (h:iq w b A)
  (hK:∀ w' left cnt,qw w' b w.heap.size A left cnt->(∀ q∈A,left (kl q.1)=bf)->Below w.heap.size w w'->wpList aB ops Q rest (a.put o.dst (Z (O ⟨w.heap.size,0,Y⟩))) w') :
  wpList aB ops Q (o::rest) a w:=by
 refine wpList_plain hg fun K' hK'=>?_;obtain⟨w',left,cnt,hrun,r1,r2,r3,_⟩:=h.range;unfold Oper.wp;simp [execOp,hop,hm,hrun,Result.andThen];exact hK' _ _ (hK w' left cnt r1 r2 r3)
theorem qE (hg:o.guard=Y) (it:Operand) (hop:o.op=Op.next it aG) (b r:Nat) (A:Up) (left:Lit->Bool) (cnt:Nat) (hit:a.eval it=.pointer (O ⟨r,0,Y⟩)) (h:qw w b r A left cnt)
  (hDone:UF A left->wpList aB ops Q rest (a.put o.dst (.tuple #[aY aG])) w)
  (hMore:∀ (key:aU) (so:Option aF) (sn sc:Nat) (w':aA),Xd w b r A left cnt key (J so sn sc) w'->wpList aB ops Q rest (a.put o.dst (.tuple #[aY bf,key,J so sn sc])) w') :
  wpList aB ops Q (o::rest) a w:=by
 refine wpList_plain hg fun K' hK'=>?_;unfold Oper.wp;rcases h.next o.type with⟨hl,hrun⟩|⟨q,key,s,w',left',cnt',hq,hr,hrun,hen,hu,hlt,hiff,hbel,_⟩
 ·simp [execOp,hop,hit,hrun,Result.andThen];exact hK' _ _ (hDone ⟨hl⟩)
 ·obtain⟨so,sn,sc⟩:=s;have hrun:(Instr.next (Z (O ⟨r,0,Y⟩)) aG o.type).run aB w=.ok (.tuple #[aY bf,key,J so sn sc]) w':=hrun;simp [execOp,hop,hit,hrun,Result.andThen];exact hK' _ _ (hMore key so sn sc w' ⟨hen,⟨q,hq,left',cnt',hr,hu,hlt,hiff⟩,hbel⟩)
end
noncomputable def Xe:Code:=((Tryz.f5.body.bind (iH 7)).getD .skip)
theorem Xf (Q:Exit->Act->aA->Prop) (W0 W:aA) (bM bE bR:Nat) (A:Up) (left:Lit->Bool) (cnt:Nat) (p:List C5) (q1 q2 q3 q4:Int) (q5:Option aF) (q6 q7:Nat) (q8:Int) (q9:Bool) (u0 u1 u2 u3 u4 u5 u6 u7 u8 u9 u10 u11 u12 u13 u14 u15 u16 u19 u20 u21 u22 u23 u24 u25 u26 u27 u28 u29 u30 u31 u32 u33 u34 u35 u36 u37 u38 u39 u40 u41 u42 u43 u44 u45 u46 u47 u48 u49 u50 u51 u52 u53 u54 u55 u56 u57 u58 u59 u60 u61 u62 u63 u64 u65 u66 u67 u68 u69 u70 u71 u72 u73 u74 u75 u76 u77 u78 u79 u80 u81 u82 u83 u84 u85 u86 u87 u88 u89 u90 u91 u92 u93 u94 u95 u96 u97 u98 u99 u100 u101 u102 u103 u104 u105 u106 u107 u108 u109 u110 u111 u112 u113 u114 u115 u116 u117 u118 u119 u120 u121 u122 u123 u124 u125 u126 u127 u128 u129 u130 u131 u132 u133 u134 u135 u136 u137 u138 u139 u140 u141 u142 u143 u144 u145 u146 u147 u148 u149 u150 u151 u152 u153 u154 u155 u156 u157 u158 u159 u160 u161 u162 u163 u164 u165 u166 u167 u168 u169 u170 u171 u172 u173 u174 u176 u177 u178 u179 u180 u181 u182 u183 u184 u185 u186 u187 u188 u189 u190 u191 u192 u193 u194 u195 u196 u197 u198 u199 u200 u201 u202 u203 u204 u205 u206 u207 u208 u209 u210 u211 u212 u213 u214 u215 u216 u217 u218 u219 u220 u221 u222 u223 u224 u225 u226 u227 u228 u229 u230 u231 u232 u233 u234 u235 u236 u237 u238 u239 u240 u241 u242:aU)
  (hB:Below W0.heap.size W0 W) (hR:W0.heap.size<=bR) (hR2:bR<W.heap.size) (hx:dG W0 bE #[U X q1,U X q2,U X q3,U X q4,J q5 q6 q7,U X q8,aY q9] 67) (hp:fF W0 (J q5 q6 q7) p) (pp:dN p) (hA:∀ z∈A,dN z.2) (hu:qw W bM bR A left cnt) (hl:∀ z∈A,left (kl z.1)=bf)
  (hQ:∀ (x:aA) (v20 v176 v177 v178 v179 v180 v181 v182 v183 v184 v185 v186:aU),Below W0.heap.size W0 x->Q .normal ⟨(u0::u1::u2::u3::u4::u5::u6::u7::u8::u9::u10::u11::u12::u13::u14::u15::u16::Z (O ⟨bE,0,Y⟩)::aY (A.any fun z=>fG z.2 p)::u19::v20::u21::u22::u23::u24::u25::u26::u27::u28::u29::u30::u31::u32::u33::u34::u35::u36::u37::u38::u39::u40::u41::u42::u43::u44::u45::u46::u47::u48::u49::u50::u51::u52::u53::u54::u55::u56::u57::u58::u59::u60::u61::u62::u63::u64::u65::u66::u67::u68::u69::u70::u71::u72::u73::u74::u75::u76::u77::u78::u79::u80::u81::u82::u83::u84::u85::u86::u87::u88::u89::u90::u91::u92::u93::u94::u95::u96::u97::u98::u99::u100::u101::u102::u103::u104::u105::u106::u107::u108::u109::u110::u111::u112::u113::u114::u115::u116::u117::u118::u119::u120::u121::u122::u123::u124::u125::u126::u127::u128::u129::u130::u131::u132::u133::u134::u135::u136::u137::u138::u139::u140::u141::u142::u143::u144::u145::u146::u147::u148::u149::u150::u151::u152::u153::u154::u155::u156::u157::u158::u159::u160::u161::u162::u163::u164::u165::u166::u167::u168::u169::u170::u171::u172::u173::u174::Z (O ⟨bR,0,Y⟩)::v176::v177::v178::v179::v180::v181::v182::v183::v184::v185::v186::u187::u188::u189::u190::u191::u192::u193::u194::u195::u196::u197::u198::u199::u200::u201::u202::u203::u204::u205::u206::u207::u208::u209::u210::u211::u212::u213::u214::u215::u216::u217::u218::u219::u220::u221::u222::u223::u224::u225::u226::u227::u228::u229::u230::u231::u232::u233::u234::u235::u236::u237::u238::u239::u240::u241::u242::[]).toArray,[]⟩ x) :
  Code.wp aB Xe Q ⟨(u0::u1::u2::u3::u4::u5::u6::u7::u8::u9::u10::u11::u12::u13::u14::u15::u16::Z (O ⟨bE,0,Y⟩)::aY aG::u19::u20::u21::u22::u23::u24::u25::u26::u27::u28::u29::u30::u31::u32::u33::u34::u35::u36::u37::u38::u39::u40::u41::u42::u43::u44::u45::u46::u47::u48::u49::u50::u51::u52::u53::u54::u55::u56::u57::u58::u59::u60::u61::u62::u63::u64::u65::u66::u67::u68::u69::u70::u71::u72::u73::u74::u75::u76::u77::u78::u79::u80::u81::u82::u83::u84::u85::u86::u87::u88::u89::u90::u91::u92::u93::u94::u95::u96::u97::u98::u99::u100::u101::u102::u103::u104::u105::u106::u107::u108::u109::u110::u111::u112::u113::u114::u115::u116::u117::u118::u119::u120::u121::u122::u123::u124::u125::u126::u127::u128::u129::u130::u131::u132::u133::u134::u135::u136::u137::u138::u139::u140::u141::u142::u143::u144::u145::u146::u147::u148::u149::u150::u151::u152::u153::u154::u155::u156::u157::u158::u159::u160::u161::u162::u163::u164::u165::u166::u167::u168::u169::u170::u171::u172::u173::u174::Z (O ⟨bR,0,Y⟩)::u176::u177::u178::u179::u180::u181::u182::u183::u184::u185::u186::u187::u188::u189::u190::u191::u192::u193::u194::u195::u196::u197::u198::u199::u200::u201::u202::u203::u204::u205::u206::u207::u208::u209::u210::u211::u212::u213::u214::u215::u216::u217::u218::u219::u220::u221::u222::u223::u224::u225::u226::u227::u228::u229::u230::u231::u232::u233::u234::u235::u236::u237::u238::u239::u240::u241::u242::[]).toArray,[]⟩ W:=by
 have HQ:=L hQ;have HX:=L hx;have HP:=L hp;have PP:=L pp;have HA:=L hA;have HR:=L hR;have S0:=L (wL (fun z=>fG z.2 p) hl);clear hQ hx hp pp hA hR hl;unfold Xe
 conv=>arg 2; whnf
 go_wp2_with fail
 go_loopw [18] (fun v wr=>∃ (left:Lit->Bool) (cnt:Nat),v=aY (A.any fun z=>!left (kl z.1) && fG z.2 p)/\qw wr bM bR A left cnt/\Below W0.heap.size W0 wr/\bR<wr.heap.size) (fun _ wr=>wr.rangeLeft bM bR)
 case atStart=>exact⟨left,cnt,by rw [S0.out],hu,hB,hR2⟩
 case round =>
  obtain⟨lf,cn,rfl,hur,hbe,hr3⟩:=hrel;have BE:=L hbe;have UR:=L hur;have R3:=L hr3;clear hbe hur hr3 hB hu hR2 S0;generalize hcv:A.any (fun z=>!lf (kl z.1) && fG z.2 p)=cv at *;have CV:=L hcv;clear hcv;go_wp2_with (first | (at_next; refine qE _ rfl _ rfl bM bR A lf cn rfl UR.out ?_ ?_) | fail)
  ·intro hdone;rw [show cv=A.any (fun z=>fG z.2 p) from CV.out.symm.trans (zH _ hdone.no)];go_wp2_with fail;exact HQ.out wr _ _ _ _ _ _ _ _ _ _ _ _ BE.out
  ·rintro key so sn sc wn ⟨hen,⟨z,hz,Xg,Xh,hrow,hun,hlt,hiff⟩,hbel⟩;have BN:=L (hbel _ _ HR.out BE.out);have ST:=L (left_step (fun z=>fG z.2 p) hz hiff);have RZ:=L hrow;have UN:=L hun;have PZ:=L (HA.out z hz);have LT:=L (show wn.rangeLeft bM bR<wr.rangeLeft bM bR from by rw [hun.left_eq,UR.out.left_eq]; exact hlt);have R4:=L (show bR<wn.heap.size from by obtain⟨D,h1,_⟩:=hun.ex; exact h1.lt);clear hz hrow hun hlt hiff hbel UR BE R3;rw [CV.out] at ST;cases cv
   ·have Xi:=HX.out.on BN.out;have HX3:=L Xi;clear Xi;obtain⟨x0,x1,x2,x3,x4,x5,x6⟩:=HX3.out.xM;go_wp2_with fail;refine (wC _ _ z.2 p wn RZ.out (HP.out.on BN.out) PZ.out PP.out).mono ?_;rintro e5 w5 ⟨rfl,hb⟩;clear hen x0 x1 x2 x3 x4 x5 x6;have hbb:=BN.out.trans (hb.mono BN.out.size);go_wp2_with fail
    go_roundw
    case rel=>exact⟨Xg,Xh,by rw [ST.out,Bool.false_or],UN.out.on hb,hbb,Nat.lt_of_lt_of_le R4.out hb.size⟩
    case measure=>rw [(UN.out.on hb).left_eq,<- UN.out.left_eq]; exact LT.out
   ·go_wp2_with fail
    go_roundw
    case rel=>exact⟨Xg,Xh,by rw [ST.out,Bool.true_or],UN.out,BN.out,R4.out⟩
    case measure=>exact LT.out
noncomputable def Xj:Code:=((Tryz.f5.body.bind (iH 5)).getD .skip)
theorem RV (Q:Exit->Act->aA->Prop) (W:aA) (bM:Nat) (A:Up) (bO:Nat) (m1 kd m3 m4 m5 m6:Int) (mo:Option aF) (mn mc:Nat) (e1:Option aF) (e2 e3:Nat) (lx:List jl) (es:List En) (u0 u1 u2 u3 u4 u5 u7 u8 u9 u10 u11 u12 u14 u15 u16 u17 u18 u19 u20 u21 u22 u23 u24 u25 u26 u27 u28 u29 u30 u31 u32 u33 u34 u35 u36 u37 u38 u39 u40 u41 u42 u43 u44 u45 u46 u47 u48 u49 u50 u51 u52 u53 u54 u55 u56 u57 u58 u59 u60 u61 u62 u63 u64 u65 u66 u67 u68 u69 u70 u71 u72 u73 u74 u75 u76 u77 u78 u79 u80 u81 u82 u83 u84 u85 u86 u87 u88 u89 u90 u91 u92 u93 u94 u95 u96 u97 u98 u99 u100 u101 u102 u103 u104 u105 u106 u107 u108 u109 u110 u111 u112 u113 u114 u115 u116 u117 u118 u119 u120 u121 u122 u123 u124 u125 u126 u127 u128 u129 u130 u131 u132 u133 u134 u135 u136 u137 u138 u139 u140 u141 u142 u143 u144 u145 u146 u147 u148 u149 u150 u151 u152 u153 u154 u155 u156 u157 u158 u159 u160 u161 u162 u163 u164 u165 u166 u167 u171 u172 u173 u174 u175 u176 u177 u178 u179 u180 u181 u182 u183 u184 u185 u186 u187 u188 u189 u190 u191 u192 u193 u194 u195 u196 u197 u198 u199 u200 u201 u202 u203 u204 u205 u206 u207 u208 u209 u210 u211 u212 u213 u214 u215 u216 u217 u218 u219 u220 u221 u222 u223 u224 u225 u226 u227 u228 u229 u230 u231 u232 u233 u234 u235 u236 u237 u238 u239 u240 u241 u242:aU)
  (hu:iq W bM A) (hA:∀ z∈A,dN z.2) (hm:dG W bO #[U X m1,U X kd,U X m3,U X m4,U X m5,U X m6,J mo mn mc,J Y 0 0] 46) (hr:mP W (J e1 e2 e3) lx) (ha:eT (kP W) lx es) (hl:e2<=1000) (pe:∀ e∈es,dN e.p) (hc:∀ e∈es,kd=4->A.any (fun z=>fG z.2 e.p)=bf)
  (hQ:∀ (x:aA) (v2 v17 v18 v20 v170 v171 v172 v173 v174 v175 v176 v177 v178 v179 v180 v181 v182 v183 v184 v185 v186 v187 v188 v189 v190 v191 v192 v193 v194 v195:aU),Below W.heap.size W x->Q .normal ⟨(u0::u1::v2::u3::u4::u5::.map (O bM)::u7::u8::u9::u10::u11::u12::Z (O ⟨bO,0,Y⟩)::u14::u15::u16::v17::v18::u19::v20::u21::u22::u23::u24::u25::u26::u27::u28::u29::u30::u31::u32::u33::u34::u35::u36::u37::u38::u39::u40::u41::u42::u43::u44::u45::u46::u47::u48::u49::u50::u51::u52::u53::u54::u55::u56::u57::u58::u59::u60::u61::u62::u63::u64::u65::u66::u67::u68::u69::u70::u71::u72::u73::u74::u75::u76::u77::u78::u79::u80::u81::u82::u83::u84::u85::u86::u87::u88::u89::u90::u91::u92::u93::u94::u95::u96::u97::u98::u99::u100::u101::u102::u103::u104::u105::u106::u107::u108::u109::u110::u111::u112::u113::u114::u115::u116::u117::u118::u119::u120::u121::u122::u123::u124::u125::u126::u127::u128::u129::u130::u131::u132::u133::u134::u135::u136::u137::u138::u139::u140::u141::u142::u143::u144::u145::u146::u147::u148::u149::u150::u151::u152::u153::u154::u155::u156::u157::u158::u159::u160::u161::u162::u163::u164::u165::u166::u167::J e1 e2 e3::U X e2::v170::v171::v172::v173::v174::v175::v176::v177::v178::v179::v180::v181::v182::v183::v184::v185::v186::v187::v188::v189::v190::v191::v192::v193::v194::v195::u196::u197::u198::u199::u200::u201::u202::u203::u204::u205::u206::u207::u208::u209::u210::u211::u212::u213::u214::u215::u216::u217::u218::u219::u220::u221::u222::u223::u224::u225::u226::u227::u228::u229::u230::u231::u232::u233::u234::u235::u236::u237::u238::u239::u240::u241::u242::[]).toArray,[]⟩ x) :
  Code.wp aB Xj Q ⟨(u0::u1::u2::u3::u4::u5::.map (O bM)::u7::u8::u9::u10::u11::u12::Z (O ⟨bO,0,Y⟩)::u14::u15::u16::u17::u18::u19::u20::u21::u22::u23::u24::u25::u26::u27::u28::u29::u30::u31::u32::u33::u34::u35::u36::u37::u38::u39::u40::u41::u42::u43::u44::u45::u46::u47::u48::u49::u50::u51::u52::u53::u54::u55::u56::u57::u58::u59::u60::u61::u62::u63::u64::u65::u66::u67::u68::u69::u70::u71::u72::u73::u74::u75::u76::u77::u78::u79::u80::u81::u82::u83::u84::u85::u86::u87::u88::u89::u90::u91::u92::u93::u94::u95::u96::u97::u98::u99::u100::u101::u102::u103::u104::u105::u106::u107::u108::u109::u110::u111::u112::u113::u114::u115::u116::u117::u118::u119::u120::u121::u122::u123::u124::u125::u126::u127::u128::u129::u130::u131::u132::u133::u134::u135::u136::u137::u138::u139::u140::u141::u142::u143::u144::u145::u146::u147::u148::u149::u150::u151::u152::u153::u154::u155::u156::u157::u158::u159::u160::u161::u162::u163::u164::u165::u166::u167::J e1 e2 e3::U X e2::U X 0::u171::u172::u173::u174::u175::u176::u177::u178::u179::u180::u181::u182::u183::u184::u185::u186::u187::u188::u189::u190::u191::u192::u193::u194::u195::u196::u197::u198::u199::u200::u201::u202::u203::u204::u205::u206::u207::u208::u209::u210::u211::u212::u213::u214::u215::u216::u217::u218::u219::u220::u221::u222::u223::u224::u225::u226::u227::u228::u229::u230::u231::u232::u233::u234::u235::u236::u237::u238::u239::u240::u241::u242::[]).toArray,[]⟩ W:=by
 have HQ:=L hQ;have HU:=L hu;have HA:=L hA;have HR:=L hr;have HE:=L ha;have HL:=L hl;have PE:=L pe;have HC:=L hc;have HM:=L hm;clear hQ hu hA hr ha hl pe hc hm;unfold Xj
 conv=>arg 2; whnf
 go_wp2_with fail
 go_loopw [170] (fun i wr=>∃ k:Nat,k<=e2/\i=U X k/\Below W.heap.size W wr) (fun i _=>e2-(intOf i).toNat)
 case atStart=>exact⟨0,bH _,rfl,ay _ _⟩
 case round =>
  obtain⟨k,hk,rfl,hbe⟩:=hrel;have BE:=L hbe;clear hbe;by_cases hlt:k<e2
  ·have hlt':(k:Int)<(e2:Int):=by omega
   have hw:IntKind.i64.wrap ((k:Int)+1)=(k:Int)+1:=IntWalk.i64_in _ (by have:=HL.out; omega);have LX:=gZ HR.out;obtain⟨x,hx⟩:∃ e,lx[k]?=O e:=⟨_,aP (by rw [LX]; exact hlt)⟩;obtain⟨e,he,_,hin⟩:=jA HE.out hx;have EI:=L (show kP wr x e from hin.on BE.out);have PP:=L (PE.out e (aJ he));have CC:=L (HC.out e (aJ he));obtain⟨p,ix,px⟩:=TT HR.out rfl LX hx;obtain⟨q1,q2,q3,q4,⟨q5,q6,q7⟩,q8,q9⟩:=x;obtain⟨p0,p1,p2,p3,p4,p5,p6⟩:=px wr BE.out;simp only at p0 p1 p2 p3 p4 p5 p6;clear px hx he hin LX;go_upto_region 35 with fail;clear p0 p1 p2 p3 p4 p5 p6 ix;have NN:=jk wr (aZ #[U X q1,U X q2,U X q3,U X q4,J q5 q6 q7,U X q8,aY q9] 67);have BA:=L (BE.out.trans (NN.mono BE.out.size));have XE:=L (dO wr #[U X q1,U X q2,U X q3,U X q4,J q5 q6 q7,U X q8,aY q9] 67);have RP:=L (EI.out.2.2.2.2.on NN);have RP:=L (show fF (wr.alloc (aZ #[U X q1,U X q2,U X q3,U X q4,J q5 q6 q7,U X q8,aY q9] 67)) (J q5 q6 q7) e.p from RP.out);have UM:=L (HU.out.on BA.out);clear NN;generalize wr.alloc (aZ #[U X q1,U X q2,U X q3,U X q4,J q5 q6 q7,U X q8,aY q9] 67)=wa at *;generalize wr.heap.size=bE at *
   go_upto_block 7 with (first | (at_range; refine pO _ rfl _ rfl bM A rfl UM.out ?_; intro wx lf cn hur hlf hb) | fail)
   have L1:=hur.ex;refine Xf _ wa wx bM bE wa.heap.size A lf cn e.p q1 q2 q3 q4 q5 q6 q7 q8 q9 _ _ _ _ _ _ _ _ _ _ _ _ _ _ _ _ _ _ _ _ _ _ _ _ _ _ _ _ _ _ _ _ _ _ _ _ _ _ _ _ _ _ _ _ _ _ _ _ _ _ _ _ _ _ _ _ _ _ _ _ _ _ _ _ _ _ _ _ _ _ _ _ _ _ _ _ _ _ _ _ _ _ _ _ _ _ _ _ _ _ _ _ _ _ _ _ _ _ _ _ _ _ _ _ _ _ _ _ _ _ _ _ _ _ _ _ _ _ _ _ _ _ _ _ _ _ _ _ _ _ _ _ _ _ _ _ _ _ _ _ _ _ _ _ _ _ _ _ _ _ _ _ _ _ _ _ _ _ _ _ _ _ _ _ _ _ _ _ _ _ _ _ _ _ _ _ _ _ _ _ _ _ _ _ _ _ _ _ _ _ _ _ _ _ _ _ _ _ _ _ _ _ _ _ _ _ _ _ _ _ _ _ _ _ _ _ _ _ _ _ _ _ _ _ _ _ _ _ _ _ _ _ _ _ _ _ _ _ _ _ hb (aT _) (by obtain⟨D,h1,_⟩:=hur.ex; exact h1.lt) XE.out RP.out PP.out HA.out hur hlf ?_;intro wy v20 v176 v177 v178 v179 v180 v181 v182 v183 v184 v185 v186 hb2;clear hur hlf hb L1;have BY:=L (BA.out.trans (hb2.mono BA.out.size));generalize hcv:A.any (fun z=>fG z.2 e.p)=cv at *;have CV:=L hcv;clear hcv;have XM:=L (HM.out.on BY.out);have m_0:=XM.out.cell 0;have m_1:=XM.out.cell 1;have m_2:=XM.out.cell 2;have m_3:=XM.out.cell 3;have m_4:=XM.out.cell 4;have m_5:=XM.out.cell 5;have m_6:=XM.out.cell 6;have m_7:=XM.out.cell 7;simp only [ak,aC,aD] at m_0 m_1 m_2 m_3 m_4 m_5 m_6 m_7;have hkd:cv=aG->(kd == 4)=aG:=fun h=>by
    by_cases q:kd=4
    ·have:=CC.out q;rw [h] at this;cases this
    ·simpa using q
   clear CC CV hb2;cases cv
   ·have hkd:=hkd rfl;go_wp2_with fail
    go_roundw
    case rel=>exact⟨k+1,hlt,by go_num,BY.out⟩
    case measure=>simp [intOf]; omega
   ·clear hkd;go_wp2_with fail
    go_roundw
    case rel=>exact⟨k+1,hlt,by go_num,BY.out⟩
    case measure=>simp [intOf]; omega
  ·obtain rfl:e2=k:=by omega
   go_wp2_with fail;exact HQ.out wr _ _ _ _ _ _ _ _ _ _ _ _ _ _ _ _ _ _ _ _ _ _ _ _ _ _ _ _ _ _ BE.out
end Rt
namespace Rt
open Go.RowKit Go.Sort Rw YtghlpefopidlaaaGreat.Nm Pr Bk Av Rl Sb Fl
theorem Ib {w0 wr x:aA} {B:Nat} {b:Br} {nv av sv ev ov Uf:Sl} {ol:List Ow} (h:Cp w0 B wr b nv av sv ev ov) (hb:Off (dQ ov).ownBlock wr x) (hx:∃ l,oP x B (dQ Uf) l/\eT (EM w0 B x) l ol):Cp w0 B x { b with own:=ol } nv av sv ev Uf:=by
 obtain⟨l0,hl0,_⟩:=h.own;have hg:=gV hl0;exact {
  near:=hb.own h.near hg (by decide)
  seen:=hb.own h.seen hg (by decide)
  dW:=by obtain⟨l,h1,h2⟩:=h.dW; exact⟨l,hb.own h1 hg (by decide),h2.mono fun _ _ h=>h.off hb hg (by decide)⟩
  ent:=by obtain⟨l,h1,h2⟩:=h.ent; exact⟨l,hb.own h1 hg (by decide),h2.mono fun _ _ h=>h.off hb hg (by decide)⟩
  own:=hx }
def aaD (_B:Nat) (b3 _b4 n k:Nat) (w0:aA) (b:Br) (v1:Option aF) (v2 v3:Nat) (v4:Option aF) (v5 v6:Nat) (v7:Option aF) (v8 v9:Nat) (v10:Option aF) (v11 v12:Nat) (v13:Option aF) (v14 v15:Nat) (x1 x2:Int) (po:Option aF) (pn pc:Nat) (p:List C5) (i:Nat) (v:aU) (x:aA):Prop :=
 match i with
 | 0=>v=Z (O ⟨b3,5,Y⟩)
 | 1=>v=J v13 v14 v15
 | 2=>v=U X k
 | 3=>v=aV #[U X x1,U X x2]
 | 4=>v=J po pn pc
 | 5=>∃ s:Sl,v=dQ s/\iE x _B (dQ s) p
 | 6=>∃ s:Sl,v=KS (x1,x2,s)/\iE x _B (dQ s) p
 | 7=>∃ (s:Sl) (g:Nat),v=J (O ⟨g,0,Y⟩) 1 1/\_B<=g/\dG x g (jF (x1,x2,s)).toArray 88/\iE x _B (dQ s) p
 | 8=>∃ s:Sl,v=dQ s/\Cp (vw w0) n x (ownIn b (x1,x2) p) (v1,v2,v3) (v4,v5,v6) (v7,v8,v9) (v10,v11,v12) s
 | 9=>v=Z (O ⟨b3,5,Y⟩)
 | 10=>True
 | _=>True
def Nu (W:aA) (b3 _b4 n _k:Nat) (w0:aA) (b:Br) (v1:Option aF) (v2 v3:Nat) (v4:Option aF) (v5 v6:Nat) (v7:Option aF) (v8 v9:Nat) (v10:Option aF) (v11 v12:Nat) (v13:Option aF) (v14 v15:Nat) (x1 x2:Int) (_po:Option aF) (_pn _pc:Nat) (p:List C5) (D:Nat->Prop) (x:aA):Prop:=(¬ D 8->Below W.heap.size W x)/\(D 8->¬ D 10->Below n W x/\Off (dQ (v13,v14,v15)).ownBlock W x)/\(D 10->Below n W x/\(∀ (g:Nat) (cs:Array aU) (t:TypeId),(t == 88)=aG->g≠b3->dG W g cs t->dG x g cs t)/\∃ s:Sl,dG x b3 #[U X b.me,J v1 v2 v3,J v4 v5 v6,J v7 v8 v9,J v10 v11 v12,dQ s] 30/\Cp (vw w0) n x (ownIn b (x1,x2) p) (v1,v2,v3) (v4,v5,v6) (v7,v8,v9) (v10,v11,v12) s)
noncomputable def Xk:Code:=((Tryz.f10.body.bind (eU 5)).getD .skip)
theorem su5 (Q:Exit->Act->aA->Prop) (W:aA) (b3 b4 n k:Nat) (w0:aA) (b:Br) (v1:Option aF) (v2 v3:Nat) (v4:Option aF) (v5 v6:Nat) (v7:Option aF) (v8 v9:Nat) (v10:Option aF) (v11 v12:Nat) (v13:Option aF) (v14 v15:Nat) (x1 x2:Int) (po:Option aF) (pn pc:Nat) (p:List C5) (u0 u1 u5 u6 u7 u9 u10 u11 u12 u13 u14 u15 u16 u17 u18 u19 u20 u21 u22 u23 u24 u25 u26 u27 u28 u29 u30 u31 u32 u33 u34 u35 u36 u37 u38 u39 u40 u41 u42 u43 u44 u45 u46 u47 u48 u49 u50 u51 u52 u53 u54 u55 u56 u57 u58 u59 u60 u61 u62 u63:aU)
  (h3:dG W b3 #[U X b.me,J v1 v2 v3,J v4 v5 v6,J v7 v8 v9,J v10 v11 v12,J v13 v14 v15] 30) (h4:dG W b4 #[U X x1,U X x2] 23) (cph:Cp (vw w0) n W b (v1,v2,v3) (v4,v5,v6) (v7,v8,v9) (v10,v11,v12) (v13,v14,v15)) (kk:gQ (b.own.map bG) (x1,x2)=k) (kl:k<=b.own.length) (lo:b.own.length<=900) (hn:n<=W.heap.size) (nb:n<=b3) (hp:fF W (J po pn pc) p) (lp:p.length<=900)
  (hQ:∀ (x:aA) (s:Sl) (q25 q26 q27 q28 q29 q30 q31 q32 q33 q34:aU),Below n W x->(∀ (g:Nat) (cs:Array aU) (t:TypeId),(t == 88)=aG->g≠b3->dG W g cs t->dG x g cs t)->dG x b3 #[U X b.me,J v1 v2 v3,J v4 v5 v6,J v7 v8 v9,J v10 v11 v12,dQ s] 30->Cp (vw w0) n x (ownIn b (x1,x2) p) (v1,v2,v3) (v4,v5,v6) (v7,v8,v9) (v10,v11,v12) s->Q .normal ⟨(u0::u1::J po pn pc::Z (O ⟨b3,0,Y⟩)::Z (O ⟨b4,0,Y⟩)::u5::u6::u7::U X k::u9::u10::u11::u12::u13::u14::u15::u16::u17::u18::u19::u20::u21::u22::u23::u24::q25::q26::q27::q28::q29::q30::q31::q32::q33::q34::u35::u36::u37::u38::u39::u40::u41::u42::u43::u44::u45::u46::u47::u48::u49::u50::u51::u52::u53::u54::u55::u56::u57::u58::u59::u60::u61::u62::u63::[]).toArray,[]⟩ x) :
  Code.wp aB Xk Q ⟨(u0::u1::J po pn pc::Z (O ⟨b3,0,Y⟩)::Z (O ⟨b4,0,Y⟩)::u5::u6::u7::U X k::u9::u10::u11::u12::u13::u14::u15::u16::u17::u18::u19::u20::u21::u22::u23::u24::u25::u26::u27::u28::u29::u30::u31::u32::u33::u34::u35::u36::u37::u38::u39::u40::u41::u42::u43::u44::u45::u46::u47::u48::u49::u50::u51::u52::u53::u54::u55::u56::u57::u58::u59::u60::u61::u62::u63::[]).toArray,[]⟩ W:=by
 have HQ:=L hQ;have H3:=L h3;have H4:=L h4;have QO:=L cph;have KK:=L kk;have KL:=L kl;have LO:=L lo;have HN:=L hn;have NB:=L nb;have HP:=L hp;have LP:=L lp;clear hQ h3 h4 cph kk kl lo hn nb hp lp;have bx3:∀ D x,Nu W b3 b4 n k w0 b v1 v2 v3 v4 v5 v6 v7 v8 v9 v10 v11 v12 v13 v14 v15 x1 x2 po pn pc p D x->¬ D 8->dG x b3 #[U X b.me,J v1 v2 v3,J v4 v5 v6,J v7 v8 v9,J v10 v11 v12,J v13 v14 v15] 30:=fun D x hF n8=>H3.out.on (hF.1 n8);have bx4:∀ D x,Nu W b3 b4 n k w0 b v1 v2 v3 v4 v5 v6 v7 v8 v9 v10 v11 v12 v13 v14 v15 x1 x2 po pn pc p D x->¬ D 8->dG x b4 #[U X x1,U X x2] 23:=fun D x hF n8=>H4.out.on (hF.1 n8);unfold Xk
 conv=>arg 2; whnf
 have nd:∀ j,(∀ i,i<11->[O 25,O 26,O 27,O 28,O 29,O 30,O 31,O 32,O 33,O 34,Y].getD i Y≠O j)->∀ i,i<11->(fun i=>[O 25,O 26,O 27,O 28,O 29,O 30,O 31,O 32,O 33,O 34,Y].getD i Y) i≠O j:=fun j h=>h;refine Rg.pz 11 (fun i=>[O 25,O 26,O 27,O 28,O 29,O 30,O 31,O 32,O 33,O 34,Y].getD i Y) (fun i=>if i=5 then 6 else if i=6 then 7 else if i=7 then 8 else 11) (aaD W.heap.size b3 b4 n k w0 b v1 v2 v3 v4 v5 v6 v7 v8 v9 v10 v11 v12 v13 v14 v15 x1 x2 po pn pc p) (Nu W b3 b4 n k w0 b v1 v2 v3 v4 v5 v6 v7 v8 v9 v10 v11 v12 v13 v14 v15 x1 x2 po pn pc p) (by kernel_rfl) (by kernel_rfl) rfl (fun i j e hi hj h1 h2=>(by decide:∀ i,i<11->∀ j,j<11->([O 25,O 26,O 27,O 28,O 29,O 30,O 31,O 32,O 33,O 34,Y].getD i Y).isSome=bf->[O 25,O 26,O 27,O 28,O 29,O 30,O 31,O 32,O 33,O 34,Y].getD i Y=[O 25,O 26,O 27,O 28,O 29,O 30,O 31,O 32,O 33,O 34,Y].getD j Y->i=j) i hi j hj (by have h1:[O 25,O 26,O 27,O 28,O 29,O 30,O 31,O 32,O 33,O 34,Y].getD i Y=O e:=h1; rw [h1]; rfl) (h1.trans h2.symm)) (fun i e hi h=>(by decide:∀ i,i<11->∀ q∈[O 25,O 26,O 27,O 28,O 29,O 30,O 31,O 32,O 33,O 34,Y].getD i Y,q<64) i hi e h) (⟨fun _=>(ay _ _).drew,fun h=>h.elim,fun h=>h.elim⟩) ?_ ?_
 ·intro i o hi ho a x D hnd hc hD hF seen K hK;clear HQ;have still:∀ i,i≠5/\i≠7/\i≠8/\i≠10->Nu W b3 b4 n k w0 b v1 v2 v3 v4 v5 v6 v7 v8 v9 v10 v11 v12 v13 v14 v15 x1 x2 po pn pc p (fun j=>j=i\/D j) x:=fun i hns=>⟨fun h=>hF.1 fun h2=>h (aj h2),fun h1 h2=>hF.2.1 (h1.resolve_left (Ne.symm hns.2.2.1)) fun h3=>h2 (aj h3),fun h=>hF.2.2 (h.resolve_left (Ne.symm hns.2.2.2))⟩;rcases (by omega:i=0\/i=1\/i=2\/i=3\/i=4\/i=5\/i=6\/i=7\/i=8\/i=9\/i=10) with rfl|rfl|rfl|rfl|rfl|rfl|rfl|rfl|rfl|rfl|rfl
  ·cases ho;have e3:a.eval (ah 3)=Z (O ⟨b3,0,Y⟩):=seen.kp 3 _ (nd 3 (by decide)) rfl;exact aK rfl rfl (Rg.eD a.eval _ 30 (ah 3) 5 rfl (by rw [e3]; simp [go_sem])) (hK _ _ rfl (still 0 (by decide)) fun _ _ _ _ _ _ _ h=>h)
  ·cases ho;have n8:¬ D 8:=fun h8=>hnd (hc 8 _ h8 rfl ⟨1,.data⟩ (by simp) rfl);have e25:a.eval (ah 25)=Z (O ⟨b3,5,Y⟩):=seen.at_ ⟨0,.data⟩ (by simp) rfl (aj (by decide)) _ rfl;have y5:=(bx3 D x hF n8).cell 5;simp only [ak,aC,aD] at y5;exact aK rfl rfl (cK a.eval _ 28 (ah 25) rfl (by rw [e25]; simp [go_sem,y5])) (hK _ _ rfl (still 1 (by decide)) fun _ _ _ _ _ _ _ h=>h)
  ·cases ho;have e8:a.eval (ah 8)=U X k:=seen.kp 8 _ (nd 8 (by decide)) rfl;exact aK rfl rfl (Rg.iZ a.eval _ (ah 8) rfl x) (hK _ _ e8 (still 2 (by decide)) fun _ _ _ _ _ _ _ h=>h)
  ·cases ho;have n8:¬ D 8:=fun h8=>hnd (hc 6 _ (hc 7 _ (hc 8 _ h8 rfl ⟨7,.data⟩ (by simp) rfl) rfl ⟨6,.data⟩ (by simp) rfl) rfl ⟨3,.data⟩ (by simp) rfl);have e4:a.eval (ah 4)=Z (O ⟨b4,0,Y⟩):=seen.kp 4 _ (nd 4 (by decide)) rfl;obtain⟨y0,y1⟩:=(bx4 D x hF n8).cs2;exact aK rfl rfl (cK a.eval _ 23 (ah 4) rfl (by rw [e4]; simp [go_sem,y0,y1])) (hK _ _ rfl (still 3 (by decide)) fun _ _ _ _ _ _ _ h=>h)
  ·cases ho;have e2:a.eval (ah 2)=J po pn pc:=seen.kp 2 _ (nd 2 (by decide)) rfl;exact aK rfl rfl (Rg.iZ a.eval _ (ah 2) rfl x) (hK _ _ e2 (still 4 (by decide)) fun _ _ _ _ _ _ _ h=>h)
  ·cases ho;have e29:a.eval (ah 29)=J po pn pc:=seen.at_ ⟨4,.data⟩ (by simp) rfl (aj (by decide)) _ rfl;have n8:¬ D 8:=fun h=>hnd (hc 8 _ h rfl ⟨5,.chain⟩ (by simp) rfl);have n10:¬ D 10:=fun h=>n8 (hc 10 _ h rfl ⟨8,.chain⟩ (by simp) rfl);have n6:¬ D 6:=fun h=>hnd (hc 6 _ h rfl ⟨5,.data⟩ (by simp) rfl);have n7:¬ D 7:=fun h=>n6 (hc 7 _ h rfl ⟨6,.data⟩ (by simp) rfl);have hb:=hF.1 n8;exact Rg.fZ rfl rfl (Rw.iT a.eval _ (ah 29) 34 44 rfl e29 rfl _ (fD Tryz.func44 rfl rfl _ _)) (jW (po,pn,pc) p x (HP.out.on hb) LP.out) fun e w1 h=>by
    obtain⟨⟨s,rfl,q1⟩,q2⟩:=h;exact⟨_,rfl,hK _ w1 ⟨s,rfl,dK q1 hb.size⟩ ⟨fun _=>hb.trans (q2.mono hb.size),fun h=>absurd (h.resolve_left (by decide)) n8,fun h=>absurd (h.resolve_left (by decide)) n10⟩ (fun j u hj dj nl nx ni h=>by
    rcases (by omega:j=0\/j=1\/j=2\/j=3\/j=4\/j=5\/j=6\/j=7\/j=8\/j=9\/j=10) with rfl|rfl|rfl|rfl|rfl|rfl|rfl|rfl|rfl|rfl|rfl
    ·exact h
    ·exact h
    ·exact h
    ·exact h
    ·exact h
    ·exact absurd rfl ni
    ·exact absurd dj n6
    ·exact absurd dj n7
    ·exact absurd dj n8
    ·exact h
    ·exact absurd dj n10)⟩
  ·cases ho;have e28:a.eval (ah 28)=aV #[U X x1,U X x2]:=seen.at_ ⟨3,.data⟩ (by simp) rfl (aj (by decide)) _ rfl;have E30:=seen.at_ ⟨5,.data⟩ (by simp) rfl (aX rfl) _ rfl;obtain⟨s,q0,q1⟩:=E30;have q0:a.eval (ah 30)=dQ s:=q0;exact aK rfl rfl (Rg.jD a.eval _ 88 #[(0,ah 28),(1,ah 30)] rfl (ps:=#[(0,aV #[U X x1,U X x2]),(1,dQ s)]) (by simp only [bL,bF,bK,e28,q0]) (by simp [go_sem])) (hK _ _ ⟨s,rfl,q1⟩ (still 6 (by decide)) fun _ _ _ _ _ _ _ h=>h)
  ·cases ho;have E31:=seen.at_ ⟨6,.data⟩ (by simp) rfl (aX rfl) _ rfl;have n8:¬ D 8:=fun h=>hnd (hc 8 _ h rfl ⟨7,.data⟩ (by simp) rfl);have n10:¬ D 10:=fun h=>n8 (hc 10 _ h rfl ⟨8,.chain⟩ (by simp) rfl);have hb:=hF.1 n8;obtain⟨s,q0,q1⟩:=E31;have q0:a.eval (ah 31)=KS (x1,x2,s):=q0;have nb:=jk x (aZ (jF (x1,x2,s)).toArray 88);exact aK rfl rfl (Rg.oO a.eval _ 28 1 #[(0,ah 31)] rfl (ps:=#[(0,KS (x1,x2,s))]) (by simp [q0]) (by simp [go_sem])) (hK (J (O ⟨x.heap.size,0,Y⟩) 1 1) (x.alloc (aZ (jF (x1,x2,s)).toArray 88)) ⟨s,x.heap.size,rfl,hb.size,dO x _ _,Bk.dL q1 nb⟩ ⟨fun _=>hb.trans (nb.mono hb.size),fun h=>absurd (h.resolve_left (by decide)) n8,fun h=>absurd (h.resolve_left (by decide)) n10⟩ (fun j u hj dj nl nx ni h=>by
    rcases (by omega:j=0\/j=1\/j=2\/j=3\/j=4\/j=5\/j=6\/j=7\/j=8\/j=9\/j=10) with rfl|rfl|rfl|rfl|rfl|rfl|rfl|rfl|rfl|rfl|rfl
    ·exact h
    ·exact h
    ·exact h
    ·exact h
    ·exact h
    ·obtain⟨s,h1,h2⟩:=h; exact⟨s,h1,Bk.dL h2 nb⟩
    ·obtain⟨s,h1,h2⟩:=h; exact⟨s,h1,Bk.dL h2 nb⟩
    ·exact absurd rfl ni
    ·exact absurd dj n8
    ·exact h
    ·exact absurd dj n10))
  ·cases ho;have e26:a.eval (ah 26)=J v13 v14 v15:=seen.at_ ⟨1,.data⟩ (by simp) rfl (aj (by decide)) _ rfl;have e27:a.eval (ah 27)=U X k:=seen.at_ ⟨2,.data⟩ (by simp) rfl (aj (by decide)) _ rfl;have E32:=seen.at_ ⟨7,.data⟩ (by simp) rfl (aX rfl) _ rfl;have d7:D 7:=hD ⟨7,.data⟩ (by simp) rfl;have d6:D 6:=hc 7 _ d7 rfl ⟨6,.data⟩ (by simp) rfl;have n10:¬ D 10:=fun h=>hnd (hc 10 _ h rfl ⟨8,.chain⟩ (by simp) rfl);have hb:=hF.1 hnd;obtain⟨s,g,q0,q1,q2,q3⟩:=E32;have q0:a.eval (ah 32)=J (O ⟨g,0,Y⟩) 1 1:=q0;have cp:=QO.out.grow hb;obtain⟨l,ho1,ho2⟩:=cp.own;obtain⟨l0,ho0,_⟩:=QO.out.own;have hne:(dQ (v13,v14,v15)).ownBlock≠O g:=fun e=>by
    obtain⟨d,hd⟩:=gV ho0 _ e;have:=hd.lt;omega
   have TG:=gV ho1;exact Rg.fZ rfl rfl (sM a.eval _ (ah 26) (ah 27) (ah 32) 28 3 28 43 rfl e26 e27 q0 rfl _ (fD Tryz.func43 rfl rfl _ _)) (Df n (dQ (v13,v14,v15)) l k (x1,x2,s) g x ho1 q2 hne (by rw [ho2.len]; exact KL.out) (by rw [ho2.len]; exact LO.out) (bD HN.out hb.size)) fun e w1 h=>by
    obtain⟨v',rfl,hown,hbel,hoth⟩:=h;obtain⟨t1,t2,hv'⟩:=(Row.dH hown).len;have hoff:Off (dQ (v13,v14,v15)).ownBlock x w1:=⟨hoth,hbel.size⟩;have CP:=Ib cp (Uf:=(t1,(l.take k++(x1,x2,s)::l.drop k).length,t2)) (ol:=eY b.own k ⟨(x1,x2),p⟩) hoff ⟨eY l k (x1,x2,s),by unfold eY; rw [List.append_assoc]; rw [hv'] at hown; exact hown,rG (ho2.mono fun _ _ q=>q.off hoff TG (by decide)) k ⟨rfl,aj (hoff.own (dK q3 HN.out) TG (by decide))⟩⟩;exact⟨_,rfl,hK v' w1 ⟨_,hv',by rw [show ownIn b (x1,x2) p={ b with own:=eY b.own k ⟨(x1,x2),p⟩ } from by unfold ownIn; rw [KK.out]]; exact CP⟩ ⟨fun h=>absurd (aX rfl) h,fun _ _=>⟨(hb.mono HN.out).trans hbel,fun j hj hne2=>(hoth j (Nat.lt_of_lt_of_le hj hb.size) hne2).trans (hb.block j hj),bD hb.size hbel.size⟩,fun h=>absurd (h.resolve_left (by decide)) n10⟩ (fun j u hj dj nl nx ni h=>by
    rcases (by omega:j=0\/j=1\/j=2\/j=3\/j=4\/j=5\/j=6\/j=7\/j=8\/j=9\/j=10) with rfl|rfl|rfl|rfl|rfl|rfl|rfl|rfl|rfl|rfl|rfl
    ·exact h
    ·exact h
    ·exact h
    ·exact h
    ·exact h
    ·exact absurd d6 nl
    ·exact absurd d7 nl
    ·exact absurd rfl nx
    ·exact absurd rfl ni
    ·exact h
    ·exact absurd dj n10)⟩
  ·cases ho;have e3:a.eval (ah 3)=Z (O ⟨b3,0,Y⟩):=seen.kp 3 _ (nd 3 (by decide)) rfl;exact aK rfl rfl (Rg.eD a.eval _ 30 (ah 3) 5 rfl (by rw [e3]; simp [go_sem])) (hK _ _ rfl (still 9 (by decide)) fun _ _ _ _ _ _ _ h=>h)
  ·cases ho;have e34:a.eval (ah 34)=Z (O ⟨b3,5,Y⟩):=seen.at_ ⟨9,.data⟩ (by simp) rfl (aj (by decide)) _ rfl;have E33:=seen.at_ ⟨8,.data⟩ (by simp) rfl (aj (by decide)) _ rfl;have d8:D 8:=hD ⟨8,.chain⟩ (by simp) rfl;obtain⟨f1,f2⟩:=hF.2.1 d8 hnd;obtain⟨⟨s1,s2,s3⟩,q0,q1⟩:=E33;have q0:a.eval (ah 33)=J s1 s2 s3:=q0;obtain⟨l0,ho0,_⟩:=QO.out.own;have TG:=gV ho0;have Xl:=f2.box H3.out TG (by decide);have c5:=Xl.cell 5;have r5:=Xl.fr 5;simp only [ak,aC,aD] at c5;have hs:(Instr.storeAt 28 (Z (O ⟨b3,5,Y⟩)) (J s1 s2 s3)).run aB x=.ok () (x.setCell ⟨b3,5,Y⟩ (J s1 s2 s3)):=by simp [go_sem,c5,r5]
   have bs:=dR x b3 5 (J s1 s2 s3);have ff:Nu W b3 b4 n k w0 b v1 v2 v3 v4 v5 v6 v7 v8 v9 v10 v11 v12 v13 v14 v15 x1 x2 po pn pc p (fun j=>j=10\/D j) (x.setCell ⟨b3,5,Y⟩ (J s1 s2 s3)):=⟨fun h=>absurd (aj d8) h,fun _ h=>absurd (aX rfl) h,fun _=>⟨f1.setCell (p:=⟨b3,5,Y⟩) NB.out _,fun g cs t h1 h2 h3=>bs.box (f2.box h3 TG h1) h2,(s1,s2,s3),by simpa using eu (k:=5) Xl (J s1 s2 s3),q1.but bs Xl⟩⟩;have d7:D 7:=hc 8 _ d8 rfl ⟨7,.data⟩ (by simp) rfl;have d6:D 6:=hc 7 _ d7 rfl ⟨6,.data⟩ (by simp) rfl;have q:=hK (aY bf) (x.setCell ⟨b3,5,Y⟩ (J s1 s2 s3)) trivial ff (fun j u hj dj nl nx ni h=>by
    rcases (by omega:j=0\/j=1\/j=2\/j=3\/j=4\/j=5\/j=6\/j=7\/j=8\/j=9\/j=10) with rfl|rfl|rfl|rfl|rfl|rfl|rfl|rfl|rfl|rfl|rfl
    ·exact h
    ·exact h
    ·exact h
    ·exact h
    ·exact h
    ·exact absurd d6 nl
    ·exact absurd d7 nl
    ·exact absurd d8 nl
    ·obtain⟨s,h1,h2⟩:=h; exact⟨s,h1,h2.but bs Xl⟩
    ·exact h
    ·exact absurd rfl ni)
   exact Rg.gI 28 (ah 34) (ah 33) rfl rfl rfl rfl e34 q0 hs q
 ·intro a x df sz kp ⟨vs,hv⟩ ⟨D,hall,hF⟩;obtain⟨f1,f2,s,f3,f4⟩:=hF.2.2 (hall 10 (by omega));have uI:∀ j,(j<25\/35<=j)->a.tmps[j]?=(u0::u1::J po pn pc::Z (O ⟨b3,0,Y⟩)::Z (O ⟨b4,0,Y⟩)::u5::u6::u7::U X k::u9::u10::u11::u12::u13::u14::u15::u16::u17::u18::u19::u20::u21::u22::u23::u24::u25::u26::u27::u28::u29::u30::u31::u32::u33::u34::u35::u36::u37::u38::u39::u40::u41::u42::u43::u44::u45::u46::u47::u48::u49::u50::u51::u52::u53::u54::u55::u56::u57::u58::u59::u60::u61::u62::u63::[])[j]?:=fun j hj=>(kp j (nd j fun i hi h=>by
   have:=(by decide:∀ i,i<11->∀ d,[O 25,O 26,O 27,O 28,O 29,O 30,O 31,O 32,O 33,O 34,Y].getD i Y=O d->25<=d/\d<35) i hi j h;omega)).trans ak
  obtain⟨mid,hmid,hfr⟩:=Rg.iA (a:=a) 25 10 (by simp [df]) (by simp [sz]) (by simp) uI;rw [hfr]
  match mid,hmid with
  | [q25,q26,q27,q28,q29,q30,q31,q32,q33,q34],_=>exact HQ.out x s _ _ _ _ _ _ _ _ _ _ f1 f2 f3 f4
def aaH (_B:Nat) (_b3 _b5 _b6:Nat) (me:Int) (s1:Option aF) (s2 s3:Nat) (s4:Option aF) (s5 s6:Nat) (s7:Option aF) (s8 s9:Nat) (s10:Option aF) (s11 s12:Nat) (s13:Option aF) (s14 s15:Nat) (par:Int) (y1 y2 y3 y4:Int) (po:Option aF) (pn pc:Nat) (y6:Int) (y7:Bool) (p:List C5) (i:Nat) (v:aU) (x:aA):Prop :=
 match i with
 | 0=>v=aV #[U X me,J s1 s2 s3,J s4 s5 s6,J s7 s8 s9,J s10 s11 s12,J s13 s14 s15]
 | 1=>v=U X par
 | 2=>v=aV #[U X y1,U X y2,U X y3,U X y4,J po pn pc,U X y6,aY y7]
 | 3=>∃ s:Sl,v=aV #[U X 3,U X y1,U X y2,U X y3,U X y4,dQ s,J Y 0 0]/\iE x _B (dQ s) p
 | 4=>∃ s:Sl,v=Ct (par,3,y1,y2,y3,y4,s,(Y,0,0))/\iE x _B (dQ s) p
 | 5=>∃ s:Sl,EP x _B v [(par,3,y1,y2,y3,y4,s,(Y,0,0))]/\iE x _B (dQ s) p
 | 6=>True
 | 7=>∃ s:Sl,EP x _B v [(par,3,y1,y2,y3,y4,s,(Y,0,0))]/\iE x _B (dQ s) p
 | _=>True
def Nv (W:aA) (_b3 _b5 b6:Nat) (me:Int) (s1:Option aF) (s2 s3:Nat) (s4:Option aF) (s5 s6:Nat) (s7:Option aF) (s8 s9:Nat) (s10:Option aF) (s11 s12:Nat) (s13:Option aF) (s14 s15:Nat) (_par:Int) (_y1 _y2 _y3 _y4:Int) (_po:Option aF) (_pn _pc:Nat) (_y6:Int) (_y7:Bool) (_p:List C5) (D:Nat->Prop) (x:aA):Prop:=(¬ D 6->Below W.heap.size W x)/\(D 6->Rg.Qv b6 W x/\dG x b6 #[U X me,J s1 s2 s3,J s4 s5 s6,J s7 s8 s9,J s10 s11 s12,J s13 s14 s15] 30)
noncomputable def Xm:Code:=((Tryz.f45.body.bind (eU 4)).getD .skip)
theorem en4 (Q:Exit->Act->aA->Prop) (W:aA) (b3 b5 b6:Nat) (me:Int) (s1:Option aF) (s2 s3:Nat) (s4:Option aF) (s5 s6:Nat) (s7:Option aF) (s8 s9:Nat) (s10:Option aF) (s11 s12:Nat) (s13:Option aF) (s14 s15:Nat) (par:Int) (y1 y2 y3 y4:Int) (po:Option aF) (pn pc:Nat) (y6:Int) (y7:Bool) (p:List C5) (z0 z1 z2 z3 z4 z5:aU) (u0 u2 u4 u7 u8 u9 u10 u11 u12 u13 u14 u15 u16 u17 u18 u19 u20 u21 u22 u23:aU)
  (h3:dG W b3 #[U X me,J s1 s2 s3,J s4 s5 s6,J s7 s8 s9,J s10 s11 s12,J s13 s14 s15] 30) (h5:dG W b5 #[U X y1,U X y2,U X y3,U X y4,J po pn pc,U X y6,aY y7] 67) (h6:dG W b6 #[z0,z1,z2,z3,z4,z5] 30) (n3:b3≠b6) (n5:b5≠b6) (hp:fF W (J po pn pc) p) (lp:p.length<=900)
  (hQ:∀ (a:Act) (y:aA) (s:Sl) (ra:Option aF) (rc:Nat),a.defers=[]->a.tmps[6]?=O (Z (O ⟨b6,0,Y⟩))->a.tmps[7]?=O (J ra 1 rc)->dG y b6 #[U X me,J s1 s2 s3,J s4 s5 s6,J s7 s8 s9,J s10 s11 s12,J s13 s14 s15] 30->Rg.Qv b6 W y->EP y W.heap.size (J ra 1 rc) [(par,3,y1,y2,y3,y4,s,(Y,0,0))]->iE y W.heap.size (dQ s) p->Q .normal a y) :
  Code.wp aB Xm Q ⟨(u0::U X par::u2::Z (O ⟨b3,0,Y⟩)::u4::Z (O ⟨b5,0,Y⟩)::Z (O ⟨b6,0,Y⟩)::u7::u8::u9::u10::u11::u12::u13::u14::u15::u16::u17::u18::u19::u20::u21::u22::u23::[]).toArray,[]⟩ W:=by
 have HQ:=L hQ;have H3:=L h3;have H5:=L h5;have H6:=L h6;have N3:=L n3;have N5:=L n5;have HP:=L hp;have LP:=L lp;clear hQ h3 h5 h6 n3 n5 hp lp;have bx3:∀ D x,Nv W b3 b5 b6 me s1 s2 s3 s4 s5 s6 s7 s8 s9 s10 s11 s12 s13 s14 s15 par y1 y2 y3 y4 po pn pc y6 y7 p D x->dG x b3 #[U X me,J s1 s2 s3,J s4 s5 s6,J s7 s8 s9,J s10 s11 s12,J s13 s14 s15] 30:=fun D x hF=>by
  by_cases d6:D 6
  ·exact (hF.2 d6).1.1.box H3.out N3.out
  ·exact H3.out.on (hF.1 d6)
 have bx5:∀ D x,Nv W b3 b5 b6 me s1 s2 s3 s4 s5 s6 s7 s8 s9 s10 s11 s12 s13 s14 s15 par y1 y2 y3 y4 po pn pc y6 y7 p D x->dG x b5 #[U X y1,U X y2,U X y3,U X y4,J po pn pc,U X y6,aY y7] 67:=fun D x hF=>by
  by_cases d6:D 6
  ·exact (hF.2 d6).1.1.box H5.out N5.out
  ·exact H5.out.on (hF.1 d6)
 unfold Xm
 conv=>arg 2; whnf
 have nd:∀ j,(∀ i,i<8->[O 18,O 19,O 20,O 21,O 22,O 23,Y,O 7].getD i Y≠O j)->∀ i,i<8->(fun i=>[O 18,O 19,O 20,O 21,O 22,O 23,Y,O 7].getD i Y) i≠O j:=fun j h=>h;refine Rg.pz 8 (fun i=>[O 18,O 19,O 20,O 21,O 22,O 23,Y,O 7].getD i Y) (fun _=>8) (aaH W.heap.size b3 b5 b6 me s1 s2 s3 s4 s5 s6 s7 s8 s9 s10 s11 s12 s13 s14 s15 par y1 y2 y3 y4 po pn pc y6 y7 p) (Nv W b3 b5 b6 me s1 s2 s3 s4 s5 s6 s7 s8 s9 s10 s11 s12 s13 s14 s15 par y1 y2 y3 y4 po pn pc y6 y7 p) (by kernel_rfl) (by kernel_rfl) rfl (fun i j e hi hj h1 h2=>(by decide:∀ i,i<8->∀ j,j<8->([O 18,O 19,O 20,O 21,O 22,O 23,Y,O 7].getD i Y).isSome=bf->[O 18,O 19,O 20,O 21,O 22,O 23,Y,O 7].getD i Y=[O 18,O 19,O 20,O 21,O 22,O 23,Y,O 7].getD j Y->i=j) i hi j hj (by have h1:[O 18,O 19,O 20,O 21,O 22,O 23,Y,O 7].getD i Y=O e:=h1; rw [h1]; rfl) (h1.trans h2.symm)) (fun i e hi h=>(by decide:∀ i,i<8->∀ q∈[O 18,O 19,O 20,O 21,O 22,O 23,Y,O 7].getD i Y,q<24) i hi e h) (⟨fun _=>(ay _ _).drew,fun h=>h.elim⟩) ?_ ?_
 ·intro i o hi ho a x D hnd hc hD hF seen K hK;clear HQ;have still:∀ i,i≠3/\i≠5/\i≠6->Nv W b3 b5 b6 me s1 s2 s3 s4 s5 s6 s7 s8 s9 s10 s11 s12 s13 s14 s15 par y1 y2 y3 y4 po pn pc y6 y7 p (fun j=>j=i\/D j) x:=fun i hns=>⟨fun h=>hF.1 fun h2=>h (aj h2),fun h=>hF.2 (h.resolve_left (Ne.symm hns.2.2))⟩;rcases (by omega:i=0\/i=1\/i=2\/i=3\/i=4\/i=5\/i=6\/i=7) with rfl|rfl|rfl|rfl|rfl|rfl|rfl|rfl
  ·cases ho;have e3:a.eval (ah 3)=Z (O ⟨b3,0,Y⟩):=seen.kp 3 _ (nd 3 (by decide)) rfl;obtain⟨y0,y1,y2,y3,y4,y5⟩:=(bx3 D x hF).ig;exact aK rfl rfl (cK a.eval _ 30 (ah 3) rfl (by rw [e3]; simp [go_sem,y0,y1,y2,y3,y4,y5])) (hK _ _ rfl (still 0 (by decide)) fun _ _ _ _ _ _ _ h=>h)
  ·cases ho;have e1:a.eval (ah 1)=U X par:=seen.kp 1 _ (nd 1 (by decide)) rfl;exact aK rfl rfl (Rg.iZ a.eval _ (ah 1) rfl x) (hK _ _ e1 (still 1 (by decide)) fun _ _ _ _ _ _ _ h=>h)
  ·cases ho;have e5:a.eval (ah 5)=Z (O ⟨b5,0,Y⟩):=seen.kp 5 _ (nd 5 (by decide)) rfl;obtain⟨y0,y1,y2,y3,y4,y5,y6⟩:=(bx5 D x hF).xM;exact aK rfl rfl (cK a.eval _ 67 (ah 5) rfl (by rw [e5]; simp [go_sem,y0,y1,y2,y3,y4,y5,y6])) (hK _ _ rfl (still 2 (by decide)) fun _ _ _ _ _ _ _ h=>h)
  ·cases ho;have e20:a.eval (ah 20)=aV #[U X y1,U X y2,U X y3,U X y4,J po pn pc,U X y6,aY y7]:=seen.at_ ⟨2,.data⟩ (by simp) rfl (aj (by decide)) _ rfl;have n6:¬ D 6:=fun h=>hnd (hc 6 _ h rfl ⟨3,.chain⟩ (by simp) rfl);have n4:¬ D 4:=fun h=>hnd (hc 4 _ h rfl ⟨3,.data⟩ (by simp) rfl);have n5:¬ D 5:=fun h=>n4 (hc 5 _ h rfl ⟨4,.data⟩ (by simp) rfl);have n7:¬ D 7:=fun h=>n5 (hc 7 _ h rfl ⟨5,.data⟩ (by simp) rfl);have hb:=hF.1 n6;exact Rg.fZ rfl rfl (Rw.iT a.eval _ (ah 20) 67 115 rfl e20 rfl _ (fD Tryz.func115 rfl rfl _ _)) (zw (y1,y2,y3,y4,(po,pn,pc),y6,y7) p x (HP.out.on hb) LP.out) fun e w1 h=>by
    obtain⟨⟨s,rfl,q1⟩,q2⟩:=h;exact⟨_,rfl,hK _ w1 ⟨s,rfl,dK q1 hb.size⟩ ⟨fun _=>hb.trans (q2.mono hb.size),fun h=>absurd (h.resolve_left (by decide)) n6⟩ (fun j u hj dj nl nx ni h=>by
    rcases (by omega:j=0\/j=1\/j=2\/j=3\/j=4\/j=5\/j=6\/j=7) with rfl|rfl|rfl|rfl|rfl|rfl|rfl|rfl
    ·exact h
    ·exact h
    ·exact h
    ·exact absurd rfl ni
    ·exact absurd dj n4
    ·exact absurd dj n5
    ·exact h
    ·exact absurd dj n7)⟩
  ·cases ho;have e19:a.eval (ah 19)=U X par:=seen.at_ ⟨1,.data⟩ (by simp) rfl (aj (by decide)) _ rfl;have Xn:=seen.at_ ⟨3,.data⟩ (by simp) rfl (aj (by decide)) _ rfl;obtain⟨s,q0,q1⟩:=Xn;have q0:a.eval (ah 21)=aV #[U X 3,U X y1,U X y2,U X y3,U X y4,dQ s,J Y 0 0]:=q0;exact aK rfl rfl (Rg.jD a.eval _ 46 #[(0,ah 19),(1,ah 21)] rfl (ps:=#[(0,U X par),(1,aV #[U X 3,U X y1,U X y2,U X y3,U X y4,dQ s,J Y 0 0])]) (by simp only [bL,bF,bK,e19,q0]) (by simp [go_sem])) (hK _ _ ⟨s,rfl,q1⟩ (still 4 (by decide)) fun _ _ _ _ _ _ _ h=>h)
  ·cases ho;have E22:=seen.at_ ⟨4,.data⟩ (by simp) rfl (aj (by decide)) _ rfl;obtain⟨s,q0,q1⟩:=E22;have q0:a.eval (ah 22)=Ct (par,3,y1,y2,y3,y4,s,(Y,0,0)):=q0;have hsz:W.heap.size<=x.heap.size:=by
    by_cases d6:D 6
    ·exact (hF.2 d6).1.1.2
    ·exact (hF.1 d6).size
   have n7:¬ D 7:=fun h=>hnd (hc 7 _ h rfl ⟨5,.data⟩ (by simp) rfl);have hl:=nQ Pq x [((par,3,y1,y2,y3,y4,s,(Y,0,0)):mY)] 1 rfl (by simp) (jY (par,3,y1,y2,y3,y4,s,(Y,0,0))).toArray (by simp [flat,EU]);have nb:=jk x (aZ (jY (par,3,y1,y2,y3,y4,s,(Y,0,0))).toArray 46);exact aK rfl rfl (Rg.oO a.eval _ 37 1 #[(0,ah 22)] rfl (ps:=#[(0,Ct (par,3,y1,y2,y3,y4,s,(Y,0,0)))]) (by simp [q0]) (by simp [go_sem])) (hK (J (O ⟨x.heap.size,0,Y⟩) 1 1) (x.alloc (aZ (jY (par,3,y1,y2,y3,y4,s,(Y,0,0))).toArray 46)) ⟨s,dK hl hsz,Bk.dL q1 nb⟩ ⟨fun h=>(hF.1 fun h2=>h (aj h2)).trans (nb.mono hsz),fun h=>⟨(hF.2 (h.resolve_left (by decide))).1.grow H6.out.lt nb,(hF.2 (h.resolve_left (by decide))).2.on nb⟩⟩ (fun j u hj dj nl nx ni h=>by
    rcases (by omega:j=0\/j=1\/j=2\/j=3\/j=4\/j=5\/j=6\/j=7) with rfl|rfl|rfl|rfl|rfl|rfl|rfl|rfl
    ·exact h
    ·exact h
    ·exact h
    ·obtain⟨s,h1,h2⟩:=h; exact⟨s,h1,Bk.dL h2 nb⟩
    ·obtain⟨s,h1,h2⟩:=h; exact⟨s,h1,Bk.dL h2 nb⟩
    ·exact absurd rfl ni
    ·exact h
    ·exact absurd dj n7))
  ·cases ho;have e6:a.eval (ah 6)=Z (O ⟨b6,0,Y⟩):=seen.kp 6 _ (nd 6 (by decide)) rfl;have e18:a.eval (ah 18)=aV #[U X me,J s1 s2 s3,J s4 s5 s6,J s7 s8 s9,J s10 s11 s12,J s13 s14 s15]:=seen.at_ ⟨0,.data⟩ (by simp) rfl (aj (by decide)) _ rfl;have hb:=hF.1 hnd;have n7:¬ D 7:=fun h=>hnd (hc 7 _ h rfl ⟨6,.chain⟩ (by simp) rfl);have hs:=p8 (H6.out.on hb) me s1 s4 s7 s10 s13 s2 s3 s5 s6 s8 s9 s11 s12 s14 s15;have bs:=au x b6 (U X me) (J s1 s2 s3) (J s4 s5 s6) (J s7 s8 s9) (J s10 s11 s12) (J s13 s14 s15);have Xo:=H6.out.on hb;have ff:Nv W b3 b5 b6 me s1 s2 s3 s4 s5 s6 s7 s8 s9 s10 s11 s12 s13 s14 s15 par y1 y2 y3 y4 po pn pc y6 y7 p (fun j=>j=6\/D j) (iY x b6 (U X me) (J s1 s2 s3) (J s4 s5 s6) (J s7 s8 s9) (J s10 s11 s12) (J s13 s14 s15)):=⟨fun h=>absurd (aX rfl) h,fun _=>⟨⟨(But.of_below hb).trans bs,fun B hB=>dI (b:=b6) (hb.mono (bD hB (Nat.le_of_lt H6.out.lt))) hB (U X me) (J s1 s2 s3) (J s4 s5 s6) (J s7 s8 s9) (J s10 s11 s12) (J s13 s14 s15)⟩,dX Xo (U X me) (J s1 s2 s3) (J s4 s5 s6) (J s7 s8 s9) (J s10 s11 s12) (J s13 s14 s15)⟩⟩;generalize iY x b6 (U X me) (J s1 s2 s3) (J s4 s5 s6) (J s7 s8 s9) (J s10 s11 s12) (J s13 s14 s15)=x2 at *;have q:=hK (aY bf) x2 trivial ff (fun j u hj dj nl nx ni h=>by
    rcases (by omega:j=0\/j=1\/j=2\/j=3\/j=4\/j=5\/j=6\/j=7) with rfl|rfl|rfl|rfl|rfl|rfl|rfl|rfl
    ·exact h
    ·exact h
    ·exact h
    ·obtain⟨s,h1,h2⟩:=h; exact⟨s,h1,bs.own h2 Xo (by decide)⟩
    ·obtain⟨s,h1,h2⟩:=h; exact⟨s,h1,bs.own h2 Xo (by decide)⟩
    ·obtain⟨s,h1,h2⟩:=h; exact⟨s,bs.own h1 Xo (by decide),bs.own h2 Xo (by decide)⟩
    ·exact h
    ·exact absurd dj n7)
   exact Rg.gI 30 (ah 6) (ah 18) rfl rfl rfl rfl e6 e18 hs q
  ·cases ho;have E23:=seen.at_ ⟨5,.data⟩ (by simp) rfl (aj (by decide)) _ rfl;exact aK rfl rfl (Rg.kY a.eval _ (ah 23) rfl x) (hK _ _ E23 (still 7 (by decide)) fun _ _ _ _ _ _ _ h=>h)
 ·intro a x df sz kp ⟨vs,hv⟩ ⟨D,hall,hF⟩;obtain⟨s,q1,q2⟩:=(hv 7 (by omega)).2 (by decide);have g7:=(hv 7 (by omega)).1 7 rfl;obtain⟨f1,f2⟩:=hF.2 (hall 6 (by omega));obtain⟨ra,rc,hv7⟩:=(Row.dH q1).len;rw [hv7] at g7 q1;exact HQ.out a x s ra rc df ((kp 6 (nd 6 (by decide))).trans rfl) g7 f2 f1 q1 q2
def VL (W:aA) (P:Prop) (r:Br×List Ou) (e:Ending) (w':aA):Prop:=(∃ (nv av sv ev ov s:Sl) (lx:List mY),e=.returned (.tuple #[mg r.1.me nv av sv ev ov,dQ s])/\mR w' r.1 nv av sv ev ov/\(P->jo w' r.1 nv av sv ev ov)/\mV w' W.heap.size (dQ s) lx r.2)/\Below W.heap.size W w'
theorem zI (b:Br) (s1:Option aF) (s2 s3:Nat) (s4:Option aF) (s5 s6:Nat) (s7:Option aF) (s8 s9:Nat) (s10:Option aF) (s11 s12:Nat) (s13:Option aF) (s14 s15:Nat) (par:Int) (y1 y2 y3 y4:Int) (po:Option aF) (pn pc:Nat) (y6:Int) (y7:Bool) (e:En) (w:aA) (h:mR w b (s1,s2,s3) (s4,s5,s6) (s7,s8,s9) (s10,s11,s12) (s13,s14,s15)) (he:kP w (y1,y2,y3,y4,(po,pn,pc),y6,y7) e) (hf:xR b) (hfp:mq b) (hr:gK b.ent) (pe:∀ e∈b.ent,dN e.p) (pp:dN e.p) :
  Calls aB 45 #[aV #[U X b.me,J s1 s2 s3,J s4 s5 s6,J s7 s8 s9,J s10 s11 s12,J s13 s14 s15],U X par,aV #[U X y1,U X y2,U X y3,U X y4,J po pn pc,U X y6,aY y7]] w (VL w (jo w b (s1,s2,s3) (s4,s5,s6) (s7,s8,s9) (s10,s11,s12) (s13,s14,s15)) (fU b par e)):=by
 obtain⟨h0,h1,h2,h3⟩:=ji w #[U X b.me,J s1 s2 s3,J s4 s5 s6,J s7 s8 s9,J s10 s11 s12,J s13 s14 s15] #[U X y1,U X y2,U X y3,U X y4,J po pn pc,U X y6,aY y7] #[U X 0,J Y 0 0,J Y 0 0,J Y 0 0,J Y 0 0,J Y 0 0] 30 67 30;have FG:=L (fun W hb=>MW b e (s1,s2,s3) (s4,s5,s6) (s7,s8,s9) (s10,s11,s12) (s13,s14,s15) (y1,y2,y3,y4,(po,pn,pc),y6,y7) W (h.br.on (show Below w.heap.size w W from hb)) (he.on hb) hf hfp hr pe pp);have NO:=L h.no;have RC:=L (show ∀ W,Below w.heap.size w W->jo w b (s1,s2,s3) (s4,s5,s6) (s7,s8,s9) (s10,s11,s12) (s13,s14,s15)->jo W b (s1,s2,s3) (s4,s5,s6) (s7,s8,s9) (s10,s11,s12) (s13,s14,s15) from fun W hb hc=>hc.on hb);have LP:=L (fT pp);have HE:=L he;have UE:=L (show fU b par e=((gY b e).1,if (gY b e).2=bf then [mU par e] else []) from rfl);have FM:=L (lC b e);obtain⟨me,hme⟩:∃ me,me=b.me:=⟨_,rfl⟩;have ME:=L hme;simp only [<- hme] at h0 h1 h2 h3 FG ⊢;have jH:=L (h0);have UH:=L (h1);have UJ:=L (h2);have JX:=L (h3);clear h0 h1 h2 h3 h he hf hfp hr pe pp hme;go_enter Tryz.func45,Tryz.ntmps45;go_upto_region 1 with fail;generalize (((w.alloc (aZ #[U X me,J s1 s2 s3,J s4 s5 s6,J s7 s8 s9,J s10 s11 s12,J s13 s14 s15] 30)).alloc (aZ #[U X y1,U X y2,U X y3,U X y4,J po pn pc,U X y6,aY y7] 67)).alloc (aZ #[U X 0,J Y 0 0,J Y 0 0,J Y 0 0,J Y 0 0,J Y 0 0] 30))=W at *;have SW:=L (FG.out W jH.out);clear FG;have VB:=L (RC.out W jH.out);have Xp:=L (NO.out.on jH.out);clear RC NO;obtain⟨x0,x1,x2,x3,x4,x5⟩:=UH.out.ig;obtain⟨UK,y_1,y_2,y_3,y_4,y_5,y_6⟩:=UJ.out.xM;go_wp2_with fail;refine SW.out.mono ?_;rintro e1 w1 ⟨⟨⟨m1,m2,m3⟩,⟨m4,m5,m6⟩,⟨m7,m8,m9⟩,⟨m10,m11,m12⟩,⟨m13,m14,m15⟩,rfl,hbr,hno,hbc⟩,hb⟩;clear SW;clear x0 x1 x2 x3 x4 x5 UK y_1 y_2 y_3 y_4 y_5 y_6;have rV:=L (jH.out.trans (hb.mono jH.out.size));have yh:=L (UH.out.on hb);have Xq:=L (UJ.out.on hb);have Xr:=L (JX.out.on hb);clear jH UH UJ JX;generalize hr:(gY b e).2=r at *;have BN:=L (show mR w1 (gY b e).1 (m1,m2,m3) (m4,m5,m6) (m7,m8,m9) (m10,m11,m12) (m13,m14,m15) from ⟨hbr,by rw [FM.out.2.1]; exact (hno Xp.out).elim fun B q=>⟨B,by rw [<- FM.out.2.1]; exact q⟩⟩);have Xt:=L (show (jo w b (s1,s2,s3) (s4,s5,s6) (s7,s8,s9) (s10,s11,s12) (s13,s14,s15)\/r=bf)->jo w1 (gY b e).1 (m1,m2,m3) (m4,m5,m6) (m7,m8,m9) (m10,m11,m12) (m13,m14,m15) from fun h=>hbc (h.imp VB.out id));clear hbr hno hbc hb hr VB Xp;rw [show (gY b e).1.me=me from by rw [FM.out.1,ME.out]];obtain⟨k0,k1,k2,k3,k4,k5⟩:=yh.out.ig;obtain⟨wM,wN,wO,wP,wQ,wR⟩:=yh.out.oJ;have zz:=yh.out.lt;have bs:=au w1 w.heap.size (U X me) (J m1 m2 m3) (J m4 m5 m6) (J m7 m8 m9) (J m10 m11 m12) (J m13 m14 m15);have G0:=L (dI (b:=w.heap.size) rV.out (aT _) (U X me) (J m1 m2 m3) (J m4 m5 m6) (J m7 m8 m9) (J m10 m11 m12) (J m13 m14 m15));have G1:=L (bs.box Xq.out (by omega));have G2:=L (bs.box Xr.out (by omega));have G3:=L (BN.out.keep (s1:=(s1,s2,s3)) (s2:=(s4,s5,s6)) (s3:=(s7,s8,s9)) (s4:=(s10,s11,s12)) (s5:=(s13,s14,s15)) (me:=me) yh.out bs);have G4:=L (fun h=>jo.nY (Xt.out h) bs yh.out (by decide) (by decide) (by decide) (by decide) (by decide) (by decide));have G5:=L (dX yh.out (U X me) (J m1 m2 m3) (J m4 m5 m6) (J m7 m8 m9) (J m10 m11 m12) (J m13 m14 m15));clear bs rV Xq Xr BN Xt yh;go_upto_region 2 with fail;clear zz k0 k1 k2 k3 k4 k5 wM wN wO wP wQ wR;unfold iY at G0 G1 G2 G3 G4 G5;generalize ((((((w1.setCell ⟨w.heap.size,0,Y⟩ (U X me)).setCell ⟨w.heap.size,1,Y⟩ (J m1 m2 m3)).setCell ⟨w.heap.size,2,Y⟩ (J m4 m5 m6)).setCell ⟨w.heap.size,3,Y⟩ (J m7 m8 m9)).setCell ⟨w.heap.size,4,Y⟩ (J m10 m11 m12)).setCell ⟨w.heap.size,5,Y⟩ (J m13 m14 m15))=w2 at *;have mW:=L (G0.out);have aaK:=L (G1.out);have Dx:=L (G2.out);have aaL:=L (G3.out);have Nw:=L (G4.out);have wS:=L (G5.out);clear G0 G1 G2 G3 G4 G5;cases r
 ·have x0:=wS.out.cell 0;have x1:=wS.out.cell 1;have x2:=wS.out.cell 2;have x3:=wS.out.cell 3;have x4:=wS.out.cell 4;have x5:=wS.out.cell 5;simp only [ak,aC,aD] at x0 x1 x2 x3 x4 x5;have Ny:=L (fun h=>Nw.out (aX h));obtain⟨r0,r1,r2,r3,r4,r5⟩:=Dx.out.ig;obtain⟨Xu,Xv,Xw,Xx,Xy,Xz⟩:=Dx.out.oJ;have zz:=Dx.out.lt;have bs:=au w2 (w.heap.size+1+1) (U X me) (J m1 m2 m3) (J m4 m5 m6) (J m7 m8 m9) (J m10 m11 m12) (J m13 m14 m15);have GG:=L (dX Dx.out (U X me) (J m1 m2 m3) (J m4 m5 m6) (J m7 m8 m9) (J m10 m11 m12) (J m13 m14 m15));have BL:=L (dI (b:=w.heap.size+1+1) mW.out (by omega) (U X me) (J m1 m2 m3) (J m4 m5 m6) (J m7 m8 m9) (J m10 m11 m12) (J m13 m14 m15));have HB:=L (aaL.out.keep (s1:=(Y,0,0)) (s2:=(Y,0,0)) (s3:=(Y,0,0)) (s4:=(Y,0,0)) (s5:=(Y,0,0)) (me:=0) Dx.out bs);have HB2:=L (fun h=>jo.nY (Ny.out h) bs Dx.out (by decide) (by decide) (by decide) (by decide) (by decide) (by decide));clear bs;go_wp2_with fail;obtain⟨v0,v1,v2,v3,v4,v5⟩:=GG.out.ig;refine bW (v:=.tuple #[aV #[U X me,J m1 m2 m3,J m4 m5 m6,J m7 m8 m9,J m10 m11 m12,J m13 m14 m15],J Y 0 0]) (by simp [results,Tryz.results45,go_sem,v0,v1,v2,v3,v4,v5]) rfl ?_;rw [UE.out,if_neg (by simp)];exact⟨⟨(m1,m2,m3),(m4,m5,m6),(m7,m8,m9),(m10,m11,m12),(m13,m14,m15),(Y,0,0),[],by rw [FM.out.1,ME.out],HB.out,HB2.out,mV.nil _ _⟩,BL.out⟩
 ·have BC:=L (Nw.out (aj rfl));go_upto_region 4 with fail;refine en4 _ w2 w.heap.size (w.heap.size+1) (w.heap.size+1+1) me m1 m2 m3 m4 m5 m6 m7 m8 m9 m10 m11 m12 m13 m14 m15 par y1 y2 y3 y4 po pn pc y6 y7 e.p _ _ _ _ _ _ _ _ _ _ _ _ _ _ _ _ _ _ _ _ _ _ _ _ _ _ wS.out aaK.out Dx.out (by omega) (by omega) (HE.out.2.2.2.2.on mW.out) LP.out ?_;intro a y s ra rc hd h6 h7 hbx hst hou hoc;have HC:=L (BC.out.nY hst.1 Dx.out (by decide) (by decide) (by decide) (by decide) (by decide) (by decide));have BL:=L (mW.out.trans (hst.2 w.heap.size (by omega)));have HO:=L (show mV y w.heap.size (J ra 1 rc) [(par,3,y1,y2,y3,y4,s,(Y,0,0))] [mU par e] from ⟨dK hou mW.out.size,.cons ⟨rfl,rfl,HE.out.1,HE.out.2.1,dK hoc mW.out.size,rfl⟩ .nil⟩);obtain⟨v0,v1,v2,v3,v4,v5⟩:=hbx.ig;simp only [Exit.then]
  apply_assumption
  go_wp2_with fail;refine bW (v:=.tuple #[aV #[U X me,J m1 m2 m3,J m4 m5 m6,J m7 m8 m9,J m10 m11 m12,J m13 m14 m15],J ra 1 rc]) (by simp [results,Tryz.results45,go_sem,h6,h7,v0,v1,v2,v3,v4,v5]) hd ?_;rw [UE.out];simp only [if_true];exact⟨⟨(m1,m2,m3),(m4,m5,m6),(m7,m8,m9),(m10,m11,m12),(m13,m14,m15),(ra,1,rc),_,by rw [FM.out.1,ME.out],⟨HC.out.br,HC.out.no⟩,fun _=>HC.out,HO.out⟩,BL.out⟩
def XA (_B:Nat) (_b5 _b7 _b8 _b10 n:Nat) (me:Int) (s1:Option aF) (s2 s3:Nat) (s4:Option aF) (s5 s6:Nat) (s7:Option aF) (s8 s9:Nat) (s10:Option aF) (s11 s12:Nat) (s13:Option aF) (s14 s15:Nat) (par t1 t2 x1 x2:Int) (rv:aU) (_lx:List mY) (l:List Ou) (_bb:Br) (_z0 _z1 _z2 _z3 _z4 _z5:aU) (i:Nat) (v:aU) (x:aA):Prop :=
 match i with
 | 0=>v=aV #[U X me,J s1 s2 s3,J s4 s5 s6,J s7 s8 s9,J s10 s11 s12,J s13 s14 s15]
 | 1=>v=rv
 | 2=>v=U X par
 | 3=>v=aV #[U X t1,U X t2]
 | 4=>v=aV #[U X x1,U X x2]
 | 5=>v=aV #[U X 4,U X t1,U X t2,U X x1,U X x2,J Y 0 0,J Y 0 0]
 | 6=>v=Ct (par,4,t1,t2,x1,x2,(Y,0,0),(Y,0,0))
 | 7=>EP x _B v [(par,4,t1,t2,x1,x2,(Y,0,0),(Y,0,0))]
 | 8=>∃ ly:List mY,mV x n v ly (l++[⟨par,4,(t1,t2),(x1,x2),[]⟩])
 | 9=>True
 | 10=>∃ ly:List mY,mV x n v ly (l++[⟨par,4,(t1,t2),(x1,x2),[]⟩])
 | _=>True
def wT (W:aA) (b5 b7 b8 b10 n:Nat) (me:Int) (s1:Option aF) (s2 s3:Nat) (s4:Option aF) (s5 s6:Nat) (s7:Option aF) (s8 s9:Nat) (s10:Option aF) (s11 s12:Nat) (s13:Option aF) (s14 s15:Nat) (_par t1 t2 x1 x2:Int) (_rv:aU) (_lx:List mY) (_l:List Ou) (bb:Br) (z0 z1 z2 z3 z4 z5:aU) (D:Nat->Prop) (x:aA):Prop:=(¬ D 8->Below W.heap.size W x)/\(D 8->¬ D 9->(Below n W x/\jo x bb (s1,s2,s3) (s4,s5,s6) (s7,s8,s9) (s10,s11,s12) (s13,s14,s15)/\dG x b5 #[U X me,J s1 s2 s3,J s4 s5 s6,J s7 s8 s9,J s10 s11 s12,J s13 s14 s15] 30/\dG x b10 #[z0,z1,z2,z3,z4,z5] 30/\dG x b7 #[U X t1,U X t2] 23/\dG x b8 #[U X x1,U X x2] 23))/\(D 9->Below n W x/\jo x bb (s1,s2,s3) (s4,s5,s6) (s7,s8,s9) (s10,s11,s12) (s13,s14,s15)/\dG x b5 #[U X me,J s1 s2 s3,J s4 s5 s6,J s7 s8 s9,J s10 s11 s12,J s13 s14 s15] 30/\dG x b10 #[U X me,J s1 s2 s3,J s4 s5 s6,J s7 s8 s9,J s10 s11 s12,J s13 s14 s15] 30)
noncomputable def RY:Code:=((Tryz.f48.body.bind (eU 10)).getD .skip)
theorem aaM (Q:Exit->Act->aA->Prop) (W:aA) (b5 b7 b8 b10 n:Nat) (me:Int) (s1:Option aF) (s2 s3:Nat) (s4:Option aF) (s5 s6:Nat) (s7:Option aF) (s8 s9:Nat) (s10:Option aF) (s11 s12:Nat) (s13:Option aF) (s14 s15:Nat) (par t1 t2 x1 x2:Int) (rv:aU) (lx:List mY) (l:List Ou) (bb:Br) (z0 z1 z2 z3 z4 z5:aU) (u0 u2 u3 u4 u6 u9 u11 u12 u13 u15 u16 u17 u18 u19 u20 u21 u22 u23 u24 u25 u26 u27 u28 u29 u30 u31 u32 u33 u34 u35 u36 u37 u38 u39 u40 u41 u42 u43 u44 u45 u46 u47 u48 u49 u50 u51:aU)
  (h5:dG W b5 #[U X me,J s1 s2 s3,J s4 s5 s6,J s7 s8 s9,J s10 s11 s12,J s13 s14 s15] 30) (h7:dG W b7 #[U X t1,U X t2] 23) (h8:dG W b8 #[U X x1,U X x2] 23) (h10:dG W b10 #[z0,z1,z2,z3,z4,z5] 30) (n5:b5≠b10) (n7:b7≠b10) (n8:b8≠b10) (ar:mV W n rv lx l) (hn:n<=W.heap.size) (hl:lx.length<=900) (bcc:jo W bb (s1,s2,s3) (s4,s5,s6) (s7,s8,s9) (s10,s11,s12) (s13,s14,s15)) (nb:n<=b10)
  (hQ:∀ (a:Act) (y:aA) (ly:List mY) (ra:Option aF) (rc:Nat),a.defers=[]->a.tmps[10]?=O (Z (O ⟨b10,0,Y⟩))->a.tmps[11]?=O (J ra ly.length rc)->dG y b10 #[U X me,J s1 s2 s3,J s4 s5 s6,J s7 s8 s9,J s10 s11 s12,J s13 s14 s15] 30->Below n W y->jo y bb (s1,s2,s3) (s4,s5,s6) (s7,s8,s9) (s10,s11,s12) (s13,s14,s15)->mV y n (J ra ly.length rc) ly (l++[⟨par,4,(t1,t2),(x1,x2),[]⟩])->Q .normal a y) :
  Code.wp aB RY Q ⟨(u0::U X par::u2::u3::u4::Z (O ⟨b5,0,Y⟩)::u6::Z (O ⟨b7,0,Y⟩)::Z (O ⟨b8,0,Y⟩)::u9::Z (O ⟨b10,0,Y⟩)::u11::u12::u13::rv::u15::u16::u17::u18::u19::u20::u21::u22::u23::u24::u25::u26::u27::u28::u29::u30::u31::u32::u33::u34::u35::u36::u37::u38::u39::u40::u41::u42::u43::u44::u45::u46::u47::u48::u49::u50::u51::[]).toArray,[]⟩ W:=by
 have HQ:=L hQ;have H5:=L h5;have H7:=L h7;have H8:=L h8;have H10:=L h10;have N5:=L n5;have N7:=L n7;have N8:=L n8;have AR:=L ar;have HN:=L hn;have HL:=L hl;have BCC:=L bcc;have NB:=L nb;clear hQ h5 h7 h8 h10 n5 n7 n8 ar hn hl bcc nb;have bx5:∀ D x,wT W b5 b7 b8 b10 n me s1 s2 s3 s4 s5 s6 s7 s8 s9 s10 s11 s12 s13 s14 s15 par t1 t2 x1 x2 rv lx l bb z0 z1 z2 z3 z4 z5 D x->dG x b5 #[U X me,J s1 s2 s3,J s4 s5 s6,J s7 s8 s9,J s10 s11 s12,J s13 s14 s15] 30:=fun D x hF=>by
  by_cases d8:D 8
  ·by_cases d9:D 9
   ·exact (hF.2.2 d9).2.2.1
   ·exact (hF.2.1 d8 d9).2.2.1
  ·exact H5.out.on (hF.1 d8)
 have aaN:∀ D x,wT W b5 b7 b8 b10 n me s1 s2 s3 s4 s5 s6 s7 s8 s9 s10 s11 s12 s13 s14 s15 par t1 t2 x1 x2 rv lx l bb z0 z1 z2 z3 z4 z5 D x->¬ D 9->dG x b7 #[U X t1,U X t2] 23:=fun D x hF n9=>by
  by_cases d8:D 8
  ·exact (hF.2.1 d8 n9).2.2.2.2.1
  ·exact H7.out.on (hF.1 d8)
 have aaO:∀ D x,wT W b5 b7 b8 b10 n me s1 s2 s3 s4 s5 s6 s7 s8 s9 s10 s11 s12 s13 s14 s15 par t1 t2 x1 x2 rv lx l bb z0 z1 z2 z3 z4 z5 D x->¬ D 9->dG x b8 #[U X x1,U X x2] 23:=fun D x hF n9=>by
  by_cases d8:D 8
  ·exact (hF.2.1 d8 n9).2.2.2.2.2
  ·exact H8.out.on (hF.1 d8)
 unfold RY
 conv=>arg 2; whnf
 have nd:∀ j,(∀ i,i<11->[O 43,O 44,O 45,O 46,O 47,O 48,O 49,O 50,O 51,Y,O 11].getD i Y≠O j)->∀ i,i<11->(fun i=>[O 43,O 44,O 45,O 46,O 47,O 48,O 49,O 50,O 51,Y,O 11].getD i Y) i≠O j:=fun j h=>h;refine Rg.pz 11 (fun i=>[O 43,O 44,O 45,O 46,O 47,O 48,O 49,O 50,O 51,Y,O 11].getD i Y) (fun i=>if i=7 then 8 else 11) (XA W.heap.size b5 b7 b8 b10 n me s1 s2 s3 s4 s5 s6 s7 s8 s9 s10 s11 s12 s13 s14 s15 par t1 t2 x1 x2 rv lx l bb z0 z1 z2 z3 z4 z5) (wT W b5 b7 b8 b10 n me s1 s2 s3 s4 s5 s6 s7 s8 s9 s10 s11 s12 s13 s14 s15 par t1 t2 x1 x2 rv lx l bb z0 z1 z2 z3 z4 z5) (by kernel_rfl) (by kernel_rfl) rfl (fun i j e hi hj h1 h2=>(by decide:∀ i,i<11->∀ j,j<11->([O 43,O 44,O 45,O 46,O 47,O 48,O 49,O 50,O 51,Y,O 11].getD i Y).isSome=bf->[O 43,O 44,O 45,O 46,O 47,O 48,O 49,O 50,O 51,Y,O 11].getD i Y=[O 43,O 44,O 45,O 46,O 47,O 48,O 49,O 50,O 51,Y,O 11].getD j Y->i=j) i hi j hj (by have h1:[O 43,O 44,O 45,O 46,O 47,O 48,O 49,O 50,O 51,Y,O 11].getD i Y=O e:=h1; rw [h1]; rfl) (h1.trans h2.symm)) (fun i e hi h=>(by decide:∀ i,i<11->∀ q∈[O 43,O 44,O 45,O 46,O 47,O 48,O 49,O 50,O 51,Y,O 11].getD i Y,q<52) i hi e h) (⟨fun _=>(ay _ _).drew,fun h=>h.elim,fun h=>h.elim⟩) ?_ ?_
 ·intro i o hi ho a x D hnd hc hD hF seen K hK;clear HQ;have still:∀ i,i≠7/\i≠8/\i≠9->wT W b5 b7 b8 b10 n me s1 s2 s3 s4 s5 s6 s7 s8 s9 s10 s11 s12 s13 s14 s15 par t1 t2 x1 x2 rv lx l bb z0 z1 z2 z3 z4 z5 (fun j=>j=i\/D j) x:=fun i hns=>⟨fun h=>hF.1 fun h2=>h (aj h2),fun h1 h2=>hF.2.1 (h1.resolve_left (Ne.symm hns.2.1)) fun h3=>h2 (aj h3),fun h=>hF.2.2 (h.resolve_left (Ne.symm hns.2.2))⟩;rcases (by omega:i=0\/i=1\/i=2\/i=3\/i=4\/i=5\/i=6\/i=7\/i=8\/i=9\/i=10) with rfl|rfl|rfl|rfl|rfl|rfl|rfl|rfl|rfl|rfl|rfl
  ·cases ho;have e5:a.eval (ah 5)=Z (O ⟨b5,0,Y⟩):=seen.kp 5 _ (nd 5 (by decide)) rfl;obtain⟨y0,y1,y2,y3,y4,y5⟩:=(bx5 D x hF).ig;exact aK rfl rfl (cK a.eval _ 30 (ah 5) rfl (by rw [e5]; simp [go_sem,y0,y1,y2,y3,y4,y5])) (hK _ _ rfl (still 0 (by decide)) fun _ _ _ _ _ _ _ h=>h)
  ·cases ho;have e14:a.eval (ah 14)=rv:=seen.kp 14 _ (nd 14 (by decide)) rfl;exact aK rfl rfl (Rg.iZ a.eval _ (ah 14) rfl x) (hK _ _ e14 (still 1 (by decide)) fun _ _ _ _ _ _ _ h=>h)
  ·cases ho;have e1:a.eval (ah 1)=U X par:=seen.kp 1 _ (nd 1 (by decide)) rfl;exact aK rfl rfl (Rg.iZ a.eval _ (ah 1) rfl x) (hK _ _ e1 (still 2 (by decide)) fun _ _ _ _ _ _ _ h=>h)
  ·cases ho;have n9:¬ D 9:=fun h9=>hnd (hc 5 _ (hc 6 _ (hc 7 _ (hc 8 _ (hc 9 _ h9 rfl ⟨8,.chain⟩ (by simp) rfl) rfl ⟨7,.data⟩ (by simp) rfl) rfl ⟨6,.data⟩ (by simp) rfl) rfl ⟨5,.data⟩ (by simp) rfl) rfl ⟨3,.data⟩ (by simp) rfl);have e7:a.eval (ah 7)=Z (O ⟨b7,0,Y⟩):=seen.kp 7 _ (nd 7 (by decide)) rfl;obtain⟨y0,y1⟩:=(aaN D x hF n9).cs2;exact aK rfl rfl (cK a.eval _ 23 (ah 7) rfl (by rw [e7]; simp [go_sem,y0,y1])) (hK _ _ rfl (still 3 (by decide)) fun _ _ _ _ _ _ _ h=>h)
  ·cases ho;have n9:¬ D 9:=fun h9=>hnd (hc 5 _ (hc 6 _ (hc 7 _ (hc 8 _ (hc 9 _ h9 rfl ⟨8,.chain⟩ (by simp) rfl) rfl ⟨7,.data⟩ (by simp) rfl) rfl ⟨6,.data⟩ (by simp) rfl) rfl ⟨5,.data⟩ (by simp) rfl) rfl ⟨4,.data⟩ (by simp) rfl);have e8:a.eval (ah 8)=Z (O ⟨b8,0,Y⟩):=seen.kp 8 _ (nd 8 (by decide)) rfl;obtain⟨y0,y1⟩:=(aaO D x hF n9).cs2;exact aK rfl rfl (cK a.eval _ 23 (ah 8) rfl (by rw [e8]; simp [go_sem,y0,y1])) (hK _ _ rfl (still 4 (by decide)) fun _ _ _ _ _ _ _ h=>h)
  ·cases ho;have e46:a.eval (ah 46)=aV #[U X t1,U X t2]:=seen.at_ ⟨3,.data⟩ (by simp) rfl (aj (by decide)) _ rfl;have e47:a.eval (ah 47)=aV #[U X x1,U X x2]:=seen.at_ ⟨4,.data⟩ (by simp) rfl (aj (by decide)) _ rfl;exact aK rfl rfl (Rg.jD a.eval _ 43 #[(0,.const (U X 4)),(1,ah 46),(2,ah 47)] rfl (ps:=#[(0,U X 4),(1,aV #[U X t1,U X t2]),(2,aV #[U X x1,U X x2])]) (by simp only [bL,bF,bK,e46,e47]; rfl) (by simp [go_sem])) (hK _ _ rfl (still 5 (by decide)) fun _ _ _ _ _ _ _ h=>h)
  ·cases ho;have e45:a.eval (ah 45)=U X par:=seen.at_ ⟨2,.data⟩ (by simp) rfl (aj (by decide)) _ rfl;have e48:a.eval (ah 48)=aV #[U X 4,U X t1,U X t2,U X x1,U X x2,J Y 0 0,J Y 0 0]:=seen.at_ ⟨5,.data⟩ (by simp) rfl (aj (by decide)) _ rfl;exact aK rfl rfl (Rg.jD a.eval _ 46 #[(0,ah 45),(1,ah 48)] rfl (ps:=#[(0,U X par),(1,aV #[U X 4,U X t1,U X t2,U X x1,U X x2,J Y 0 0,J Y 0 0])]) (by simp only [bL,bF,bK,e45,e48]) (by simp [go_sem])) (hK _ _ rfl (still 6 (by decide)) fun _ _ _ _ _ _ _ h=>h)
  ·cases ho;have e49:a.eval (ah 49)=Ct (par,4,t1,t2,x1,x2,(Y,0,0),(Y,0,0)):=seen.at_ ⟨6,.data⟩ (by simp) rfl (aj (by decide)) _ rfl;have n8:¬ D 8:=fun h=>hnd (hc 8 _ h rfl ⟨7,.data⟩ (by simp) rfl);have n9:¬ D 9:=fun h=>n8 (hc 9 _ h rfl ⟨8,.chain⟩ (by simp) rfl);have hb:=hF.1 n8;have hl:=nQ Pq x [((par,4,t1,t2,x1,x2,(Y,0,0),(Y,0,0)):mY)] 1 rfl (by simp) (jY (par,4,t1,t2,x1,x2,(Y,0,0),(Y,0,0))).toArray (by simp [flat,EU]);have nb:=jk x (aZ (jY (par,4,t1,t2,x1,x2,(Y,0,0),(Y,0,0))).toArray 46);exact aK rfl rfl (Rg.oO a.eval _ 37 1 #[(0,ah 49)] rfl (ps:=#[(0,Ct (par,4,t1,t2,x1,x2,(Y,0,0),(Y,0,0)))]) (by simp [e49]) (by simp [go_sem])) (hK (J (O ⟨x.heap.size,0,Y⟩) 1 1) (x.alloc (aZ (jY (par,4,t1,t2,x1,x2,(Y,0,0),(Y,0,0))).toArray 46)) (dK hl hb.size) ⟨fun _=>hb.trans (nb.mono hb.size),fun h=>absurd (h.resolve_left (by decide)) n8,fun h=>absurd (h.resolve_left (by decide)) n9⟩ (fun j u hj dj nl nx ni h=>by
    rcases (by omega:j=0\/j=1\/j=2\/j=3\/j=4\/j=5\/j=6\/j=7\/j=8\/j=9\/j=10) with rfl|rfl|rfl|rfl|rfl|rfl|rfl|rfl|rfl|rfl|rfl
    ·exact h
    ·exact h
    ·exact h
    ·exact h
    ·exact h
    ·exact h
    ·exact h
    ·exact absurd rfl ni
    ·exact absurd dj n8
    ·exact h
    ·exact absurd (hc 10 _ dj rfl ⟨8,.data⟩ (by simp) rfl) n8))
  ·cases ho;have e44:a.eval (ah 44)=rv:=seen.at_ ⟨1,.data⟩ (by simp) rfl (aj (by decide)) _ rfl;have E50:=seen.at_ ⟨7,.data⟩ (by simp) rfl (aX rfl) _ rfl;have n9:¬ D 9:=fun h=>hnd (hc 9 _ h rfl ⟨8,.chain⟩ (by simp) rfl);have hb:=hF.1 hnd;have ar:=AR.out.on hb;obtain⟨v',x',r,o',gr⟩:=kr Pq n ar.row (Row.dH E50) (by have:=HL.out; omega) (by simp) (bD HN.out hb.size) 37;have hp:=ar.more gr o' (m:=[⟨par,4,(t1,t2),(x1,x2),[]⟩]) (.cons (show QG _ _ _ _ from ⟨rfl,rfl,rfl,rfl,iP _ _,rfl⟩) .nil);have g1:Below n W x':=(hb.mono HN.out).grown gr (bD HN.out hb.size) (fun j hj=>(ar.row.lt j hj).1);have g2:=jo.app ar.row gr (BCC.out.on hb);have g3:=jq ar.row gr (H5.out.on hb) (by decide);have g4:=jq ar.row gr (H10.out.on hb) (by decide);have g5:=jq ar.row gr (H7.out.on hb) (by decide);have g6:=jq ar.row gr (H8.out.on hb) (by decide);have ff:wT W b5 b7 b8 b10 n me s1 s2 s3 s4 s5 s6 s7 s8 s9 s10 s11 s12 s13 s14 s15 par t1 t2 x1 x2 rv lx l bb z0 z1 z2 z3 z4 z5 (fun j=>j=8\/D j) x':=⟨fun h=>absurd (aX rfl) h,fun _ _=>⟨g1,g2,g3,g4,g5,g6⟩,fun h=>absurd (h.resolve_left (by decide)) n9⟩;have q:=hK v' x' ⟨_,hp⟩ ff (fun j u hj dj nl nx ni h=>by
    rcases (by omega:j=0\/j=1\/j=2\/j=3\/j=4\/j=5\/j=6\/j=7\/j=8\/j=9\/j=10) with rfl|rfl|rfl|rfl|rfl|rfl|rfl|rfl|rfl|rfl|rfl
    ·exact h
    ·exact h
    ·exact h
    ·exact h
    ·exact h
    ·exact h
    ·exact h
    ·exact absurd rfl nx
    ·exact absurd rfl ni
    ·exact h
    ·exact absurd (hc 10 _ dj rfl ⟨8,.data⟩ (by simp) rfl) hnd)
   exact aK rfl rfl (Rg.Iz a.eval _ (ah 44) (ah 50) 37 rfl e44 rfl r) q
  ·cases ho;have e10:a.eval (ah 10)=Z (O ⟨b10,0,Y⟩):=seen.kp 10 _ (nd 10 (by decide)) rfl;have e43:a.eval (ah 43)=aV #[U X me,J s1 s2 s3,J s4 s5 s6,J s7 s8 s9,J s10 s11 s12,J s13 s14 s15]:=seen.at_ ⟨0,.data⟩ (by simp) rfl (aj (by decide)) _ rfl;have d8:D 8:=hD ⟨8,.chain⟩ (by simp) rfl;have n10:¬ D 10:=fun h=>hnd (hc 10 _ h rfl ⟨9,.chain⟩ (by simp) rfl);obtain⟨f1,f2,f3,f4,_⟩:=hF.2.1 d8 hnd;have hs:=p8 f4 me s1 s4 s7 s10 s13 s2 s3 s5 s6 s8 s9 s11 s12 s14 s15;have bs:=au x b10 (U X me) (J s1 s2 s3) (J s4 s5 s6) (J s7 s8 s9) (J s10 s11 s12) (J s13 s14 s15);have g1:=dI (b:=b10) f1 NB.out (U X me) (J s1 s2 s3) (J s4 s5 s6) (J s7 s8 s9) (J s10 s11 s12) (J s13 s14 s15);have g2:=f2.nY bs f4 (by decide) (by decide) (by decide) (by decide) (by decide) (by decide);have g3:=bs.box f3 N5.out;have g4:=dX f4 (U X me) (J s1 s2 s3) (J s4 s5 s6) (J s7 s8 s9) (J s10 s11 s12) (J s13 s14 s15);have ff:wT W b5 b7 b8 b10 n me s1 s2 s3 s4 s5 s6 s7 s8 s9 s10 s11 s12 s13 s14 s15 par t1 t2 x1 x2 rv lx l bb z0 z1 z2 z3 z4 z5 (fun j=>j=9\/D j) (iY x b10 (U X me) (J s1 s2 s3) (J s4 s5 s6) (J s7 s8 s9) (J s10 s11 s12) (J s13 s14 s15)):=⟨fun h=>absurd (aj d8) h,fun _ h=>absurd (aX rfl) h,fun _=>⟨g1,g2,g3,g4⟩⟩;clear g1 g2 g3 g4;generalize iY x b10 (U X me) (J s1 s2 s3) (J s4 s5 s6) (J s7 s8 s9) (J s10 s11 s12) (J s13 s14 s15)=x2 at *;have q:=hK (aY bf) x2 trivial ff (fun j u hj dj nl nx ni h=>by
    rcases (by omega:j=0\/j=1\/j=2\/j=3\/j=4\/j=5\/j=6\/j=7\/j=8\/j=9\/j=10) with rfl|rfl|rfl|rfl|rfl|rfl|rfl|rfl|rfl|rfl|rfl
    ·exact h
    ·exact h
    ·exact h
    ·exact h
    ·exact h
    ·exact h
    ·exact h
    ·exact absurd d8 nl
    ·obtain⟨ly,h⟩:=h; exact⟨ly,h.but bs f4 (by decide) (by decide)⟩
    ·exact h
    ·exact absurd dj n10)
   exact Rg.gI 30 (ah 10) (ah 43) rfl rfl rfl rfl e10 e43 hs q
  ·cases ho;have E51:=seen.at_ ⟨8,.data⟩ (by simp) rfl (aj (by decide)) _ rfl;exact aK rfl rfl (Rg.kY a.eval _ (ah 51) rfl x) (hK _ _ E51 (still 10 (by decide)) fun _ _ _ _ _ _ _ h=>h)
 ·intro a x df sz kp ⟨vs,hv⟩ ⟨D,hall,hF⟩;obtain⟨ly,q1⟩:=(hv 10 (by omega)).2 (by decide);have g11:=(hv 10 (by omega)).1 11 rfl;obtain⟨f1,f2,_,f4⟩:=hF.2.2 (hall 9 (by omega));obtain⟨ra,rc,hv7⟩:=(Row.dH q1.row).len;rw [hv7] at g11 q1;exact HQ.out a x ly ra rc df ((kp 10 (nd 10 (by decide))).trans rfl) g11 f4 f1 f2 q1
theorem UO {V wr:aA} {B:Nat} {v:aU} {p:List C5} (h:PM (vw V) B wr v p):fF wr v p:=h.elim Ag Row.dH
theorem QS (b:Br) (t x:dV) (f:Int) (h:b.ent.length<=900):(takeB b t x f).2.1.length<=900:=bD (lG b t x f).2 h
theorem JY {l:List En} {k:Nat} {e:En} (par:Int) (h:l[k]?=O e):(l.take (k+1)).map (mU par)=(l.take k).map (mU par)++[mU par e]:=by
 rw [List.take_add_one,h,bC]
 rfl
theorem zJ (b:Br) (s1:Option aF) (s2 s3:Nat) (s4:Option aF) (s5 s6:Nat) (s7:Option aF) (s8 s9:Nat) (s10:Option aF) (s11 s12:Nat) (s13:Option aF) (s14 s15:Nat) (par t1 t2 x1 x2 f:Int) (w:aA) (h:mR w b (s1,s2,s3) (s4,s5,s6) (s7,s8,s9) (s10,s11,s12) (s13,s14,s15)) (hf:xR b) (hfp:mq b) (hr:gK b.ent) (pe:∀ e∈b.ent,dN e.p) :
  Calls aB 48 #[aV #[U X b.me,J s1 s2 s3,J s4 s5 s6,J s7 s8 s9,J s10 s11 s12,J s13 s14 s15],U X par,aV #[U X t1,U X t2],aV #[U X x1,U X x2],U X f] w (VL w (jo w b (s1,s2,s3) (s4,s5,s6) (s7,s8,s9) (s10,s11,s12) (s13,s14,s15)) (gG b par (t1,t2) (x1,x2) f)):=by
 obtain⟨h0,h1,h2,h3,h4⟩:=CW w #[U X b.me,J s1 s2 s3,J s4 s5 s6,J s7 s8 s9,J s10 s11 s12,J s13 s14 s15] #[U X t1,U X t2] #[U X x1,U X x2] #[U X 0,J Y 0 0,J Y 0 0,J Y 0 0,J Y 0 0,J Y 0 0] 30 23 23 30;have FG:=L (fun W hb=>JH b (s1,s2,s3) (s4,s5,s6) (s7,s8,s9) (s10,s11,s12) (s13,s14,s15) (t1,t2) (x1,x2) f W (h.br.on (show Below w.heap.size w W from hb)) hf hfp hr pe);have NO:=L h.no;have RC:=L (show ∀ W,Below w.heap.size w W->jo w b (s1,s2,s3) (s4,s5,s6) (s7,s8,s9) (s10,s11,s12) (s13,s14,s15)->jo W b (s1,s2,s3) (s4,s5,s6) (s7,s8,s9) (s10,s11,s12) (s13,s14,s15) from fun W hb hc=>hc.on hb);have UE:=L (show gG b par (t1,t2) (x1,x2) f=((takeB b (t1,t2) (x1,x2) f).1,if (takeB b (t1,t2) (x1,x2) f).2.2=bf then (takeB b (t1,t2) (x1,x2) f).2.1.map (mU par)++[⟨par,4,(t1,t2),(x1,x2),[]⟩] else []) from rfl);have FM:=L (lF b (t1,t2) (x1,x2) f);have UL:=L (QS b (t1,t2) (x1,x2) f hf.ent);have UP:=L (show ∀ e∈(takeB b (t1,t2) (x1,x2) f).2.1,dN e.p from (tq (t1,t2) (x1,x2) f (fun e=>dN e.p) (fun _ _ q=>q) pe).2);obtain⟨me,hme⟩:∃ me,me=b.me:=⟨_,rfl⟩;have ME:=L hme;simp only [<- hme] at h0 h1 h2 h3 h4 FG ⊢;have jH:=L (h0);have UQ:=L (h1);have UU:=L (h2);have JX:=L (h3);have R6:=L (h4);clear h0 h1 h2 h3 h4 h hf hfp hr pe hme;go_enter Tryz.func48,Tryz.ntmps48;go_upto_region 1 with fail;generalize hW0:((((w.alloc (aZ #[U X me,J s1 s2 s3,J s4 s5 s6,J s7 s8 s9,J s10 s11 s12,J s13 s14 s15] 30)).alloc (aZ #[U X t1,U X t2] 23)).alloc (aZ #[U X x1,U X x2] 23)).alloc (aZ #[U X 0,J Y 0 0,J Y 0 0,J Y 0 0,J Y 0 0,J Y 0 0] 30))=W at *;clear hW0;have SW:=L (FG.out W jH.out);clear FG;have VB:=L (RC.out W jH.out);have Xp:=L (NO.out.on jH.out);clear RC NO;obtain⟨x0,x1,x2,x3,x4,x5⟩:=UQ.out.ig;obtain⟨UK,y_1⟩:=UU.out.cs2;obtain⟨z_0,z_1⟩:=JX.out.cs2;go_wp2_with fail;refine SW.out.mono ?_;rintro e1 w1 ⟨⟨⟨m1,m2,m3⟩,⟨m4,m5,m6⟩,⟨m7,m8,m9⟩,⟨m10,m11,m12⟩,⟨m13,m14,m15⟩,⟨g1,g2,g3⟩,lu,rfl,hbr,hru,Zp,hno,hbc,R7,⟨V0,HV0⟩⟩,hb⟩;clear SW;clear x0 x1 x2 x3 x4 x5 UK y_1 z_0 z_1;have mW:=L (jH.out.trans (hb.mono jH.out.size));have AY:=L (UQ.out.on hb);have XC:=L (UU.out.on hb);have XD:=L (JX.out.on hb);have Nz:=L (R6.out.on hb);clear jH UQ UU JX R6;have UN:=L (show lu.length=(takeB b (t1,t2) (x1,x2) f).2.1.length from Zp.len);have UG:=L (show lu.length=g2 from gZ hru);obtain⟨ups,XF⟩:∃ l,l=(takeB b (t1,t2) (x1,x2) f).2.1:=⟨_,rfl⟩;rw [<- XF] at Zp UN UL UP UE HV0;clear XF;generalize hr:(takeB b (t1,t2) (x1,x2) f).2.2=r at *;have BN:=L (show mR w1 (takeB b (t1,t2) (x1,x2) f).1 (m1,m2,m3) (m4,m5,m6) (m7,m8,m9) (m10,m11,m12) (m13,m14,m15) from ⟨hbr,hno Xp.out⟩);have Xt:=L (show (jo w b (s1,s2,s3) (s4,s5,s6) (s7,s8,s9) (s10,s11,s12) (s13,s14,s15)\/r=bf)->jo w1 (takeB b (t1,t2) (x1,x2) f).1 (m1,m2,m3) (m4,m5,m6) (m7,m8,m9) (m10,m11,m12) (m13,m14,m15) from fun h=>hbc (h.imp VB.out id));have RU:=L hru;have AU:=L Zp;clear hbr hno hbc hb hr VB Xp hru Zp;rw [show (takeB b (t1,t2) (x1,x2) f).1.me=me from by rw [FM.out.2.2.1,ME.out]];have HW1:=L (show w.heap.size+1+1+1+1<=w1.heap.size from Nz.out.lt);have OV:=L R7;have AV:=L (show eT (nO (vw V0) W.heap.size w1) lu ups from HV0);clear R7 HV0;obtain⟨k0,k1,k2,k3,k4,k5⟩:=AY.out.ig;obtain⟨wM,wN,wO,wP,wQ,wR⟩:=AY.out.oJ;have zz:=AY.out.lt;have bs:=au w1 w.heap.size (U X me) (J m1 m2 m3) (J m4 m5 m6) (J m7 m8 m9) (J m10 m11 m12) (J m13 m14 m15);have G0:=L (dI (b:=w.heap.size) mW.out (aT _) (U X me) (J m1 m2 m3) (J m4 m5 m6) (J m7 m8 m9) (J m10 m11 m12) (J m13 m14 m15));have G1:=L (bs.box XC.out (by omega));have G2:=L (bs.box XD.out (by omega));have G3:=L (bs.box Nz.out (by omega));have G4:=L (BN.out.keep (s1:=(s1,s2,s3)) (s2:=(s4,s5,s6)) (s3:=(s7,s8,s9)) (s4:=(s10,s11,s12)) (s5:=(s13,s14,s15)) (me:=me) AY.out bs);have G5:=L (fun h=>jo.nY (Xt.out h) bs AY.out (by decide) (by decide) (by decide) (by decide) (by decide) (by decide));have G6:=L (bs.own OV.out AY.out (by decide));have G7:=L (AV.out.mono fun _ _ q=>q.but bs AY.out (by decide));have G8:=L (dX AY.out (U X me) (J m1 m2 m3) (J m4 m5 m6) (J m7 m8 m9) (J m10 m11 m12) (J m13 m14 m15));clear bs mW XC XD Nz BN Xt OV AV AY;go_upto_region 2 with fail;clear zz k0 k1 k2 k3 k4 k5 wM wN wO wP wQ wR;unfold iY at G0 G1 G2 G3 G4 G5 G6 G7 G8;generalize ((((((w1.setCell ⟨w.heap.size,0,Y⟩ (U X me)).setCell ⟨w.heap.size,1,Y⟩ (J m1 m2 m3)).setCell ⟨w.heap.size,2,Y⟩ (J m4 m5 m6)).setCell ⟨w.heap.size,3,Y⟩ (J m7 m8 m9)).setCell ⟨w.heap.size,4,Y⟩ (J m10 m11 m12)).setCell ⟨w.heap.size,5,Y⟩ (J m13 m14 m15))=w2 at *;have tN:=L (G0.out);have XG:=L (G1.out);have XH:=L (G2.out);have oC:=L (G3.out);have R8:=L (G4.out);have Ga:=L (G5.out);have R9:=L (G6.out);have Sc:=L (G7.out);have ug:=L (G8.out);clear G0 G1 G2 G3 G4 G5 G6 G7 G8;cases r
 ·have x0:=ug.out.cell 0;have x1:=ug.out.cell 1;have x2:=ug.out.cell 2;have x3:=ug.out.cell 3;have x4:=ug.out.cell 4;have x5:=ug.out.cell 5;simp only [ak,aC,aD] at x0 x1 x2 x3 x4 x5;have Ny:=L (fun h=>Ga.out (aX h));obtain⟨r0,r1,r2,r3,r4,r5⟩:=oC.out.ig;obtain⟨Xu,Xv,Xw,Xx,Xy,Xz⟩:=oC.out.oJ;have zz:=oC.out.lt;have bs:=au w2 (w.heap.size+1+1+1) (U X me) (J m1 m2 m3) (J m4 m5 m6) (J m7 m8 m9) (J m10 m11 m12) (J m13 m14 m15);have GG:=L (dX oC.out (U X me) (J m1 m2 m3) (J m4 m5 m6) (J m7 m8 m9) (J m10 m11 m12) (J m13 m14 m15));have BL:=L (dI (b:=w.heap.size+1+1+1) tN.out (by omega) (U X me) (J m1 m2 m3) (J m4 m5 m6) (J m7 m8 m9) (J m10 m11 m12) (J m13 m14 m15));have HB:=L (R8.out.keep (s1:=(Y,0,0)) (s2:=(Y,0,0)) (s3:=(Y,0,0)) (s4:=(Y,0,0)) (s5:=(Y,0,0)) (me:=0) oC.out bs);have HB2:=L (fun h=>jo.nY (Ny.out h) bs oC.out (by decide) (by decide) (by decide) (by decide) (by decide) (by decide));clear bs;go_wp2_with fail;obtain⟨v0,v1,v2,v3,v4,v5⟩:=GG.out.ig;refine bW (v:=.tuple #[aV #[U X me,J m1 m2 m3,J m4 m5 m6,J m7 m8 m9,J m10 m11 m12,J m13 m14 m15],J Y 0 0]) (by simp [results,Tryz.results48,go_sem,v0,v1,v2,v3,v4,v5]) rfl ?_;rw [UE.out,if_neg (by simp)];exact⟨⟨(m1,m2,m3),(m4,m5,m6),(m7,m8,m9),(m10,m11,m12),(m13,m14,m15),(Y,0,0),[],by rw [FM.out.2.2.1,ME.out],HB.out,HB2.out,mV.nil _ _⟩,BL.out⟩
 ·have BC:=L (Ga.out (aj rfl));clear Ga R8;obtain rfl:lu.length=g2:=UG.out;clear UG;generalize hg2:lu.length=g2 at *;have G2:=L hg2;clear hg2;go_wp2_with fail;have HW2:=L (show w.heap.size+1+1+1+1<=w2.heap.size from oC.out.lt)
  go_loopw [14,31] (fun v i wr=>∃ (k:Nat) (lx:List mY),k<=g2/\i=U X k/\Below w.heap.size w wr/\dG wr w.heap.size #[U X me,J m1 m2 m3,J m4 m5 m6,J m7 m8 m9,J m10 m11 m12,J m13 m14 m15] 30/\dG wr (w.heap.size+1) #[U X t1,U X t2] 23/\dG wr (w.heap.size+1+1) #[U X x1,U X x2] 23/\dG wr (w.heap.size+1+1+1) #[U X 0,J Y 0 0,J Y 0 0,J Y 0 0,J Y 0 0,J Y 0 0] 30/\jo wr (takeB b (t1,t2) (x1,x2) f).1 (m1,m2,m3) (m4,m5,m6) (m7,m8,m9) (m10,m11,m12) (m13,m14,m15)/\jM wr W.heap.size (dQ (g1,g2,g3)) lu/\eT (nO (vw V0) W.heap.size wr) lu ups/\mV wr w.heap.size v lx ((ups.take k).map (mU par))/\w2.heap.size<=wr.heap.size) (fun _ i _=>g2-(intOf i).toNat)
  case atStart=>exact⟨0,[],bH _,rfl,tN.out,ug.out,XG.out,XH.out,oC.out,BC.out,R9.out,Sc.out,mV.nil _ _,aT _⟩
  case round =>
   clear tN ug XG XH oC BC R9 Sc;obtain⟨k,lx,hk,rfl,hgb,hx5,hx7,VK,XI,hbc,hov,hav,hou,hsz⟩:=hrel;have Dy:=L (hgb);have ND:=L (hx5);have NG:=L (hx7);have NH:=L (VK);have Gb:=L (XI);have NJ:=L (hbc);have NK:=L (hov);have NM:=L (hav);have nL:=L (hou);have HSZ:=L hsz;clear hgb hx5 hx7 VK XI hbc hov hav hou hsz;by_cases hlt:k<g2
   ·have hlt':(k:Int)<(g2:Int):=by omega
    have hw:IntKind.i64.wrap ((k:Int)+1)=(k:Int)+1:=IntWalk.i64_in _ (by have:=UL.out; have:=UN.out; have:=G2.out; omega);obtain⟨e,he⟩:∃ e,ups[k]?=O e:=⟨_,aP (by rw [<- UN.out]; exact hlt)⟩;have US:=L (JY par he);have PE:=L (UP.out e (aJ he));obtain⟨z,hz1,hz2⟩:=NM.out.at k e he;obtain⟨pq,ix,px⟩:=TT (Row.dH NK.out) rfl G2.out hz1;obtain⟨p0,p1,p2,p3,p4,p5,p6⟩:=px wr (ay _ _);obtain⟨y1,y2,y3,y4,⟨yo,yn,yc⟩,y6,y7⟩:=z;have ZT:=L (show (y1,y2)=e.tree from hz2.1);have ZS:=L (show (y3,y4)=e.sub from hz2.2.1);have PO:=L (show fF wr (J yo yn yc) e.p from UO hz2.2.2.2.2);simp only at p0 p1 p2 p3 p4 p5 p6;clear px hz1 hz2 he;go_upto_region 8 with fail;clear p0 p1 p2 p3 p4 p5 p6 ix;have NN:=jk wr (aZ #[U X y1,U X y2,U X y3,U X y4,J yo yn yc,U X y6,aY y7] 67);have nM:=L (Dy.out.trans (NN.mono Dy.out.size));have Sd:=L (ND.out.on NN);have Sg:=L (NG.out.on NN);have Si:=L (NH.out.on NN);have NP:=L (Gb.out.on NN);have uh:=L (NJ.out.on NN);have Sj:=L (Bk.dL NK.out NN);have Sk:=L (NM.out.mono fun _ _ q=>q.grow NN);have uj:=L (nL.out.on NN);have Sm:=L (PO.out.on NN);clear Dy ND NG NH Gb NJ NK NM nL PO;have NQ:=L (dO wr #[U X y1,U X y2,U X y3,U X y4,J yo yn yc,U X y6,aY y7] 67);clear NN;have HS2:=L (show w2.heap.size<=(wr.alloc (aZ #[U X y1,U X y2,U X y3,U X y4,J yo yn yc,U X y6,aY y7] 67)).heap.size from by have:=HSZ.out; simp; omega);generalize wr.alloc (aZ #[U X y1,U X y2,U X y3,U X y4,J yo yn yc,U X y6,aY y7] 67)=wa at *;generalize wr.heap.size=bE at *;have SB:=L (zw (y1,y2,y3,y4,(yo,yn,yc),y6,y7) e.p wa Sm.out (fT PE.out));obtain⟨e_0,e_1,e_2,e_3,e_4,e_5,e_6⟩:=NQ.out.xM;go_wp2_with fail;refine SB.out.mono ?_;rintro e5 wb ⟨⟨⟨q1,q2,q3⟩,rfl,hoc⟩,hb⟩;clear SB;clear e_0 e_1 e_2 e_3 e_4 e_5 e_6;clear Sm;have kS:=L (nM.out.trans (hb.mono nM.out.size));have XJ:=L (Sd.out.on hb);have XK:=L (Sg.out.on hb);have XL:=L (Si.out.on hb);have UW:=L (NP.out.on hb);have uo:=L (uh.out.on hb);have XO:=L (Bk.dL Sj.out hb);have XP:=L (Sk.out.mono fun _ _ q=>q.grow hb);have uq:=L (uj.out.on hb);have aci:=L (NQ.out.on hb);clear nM Sd Sg Si NP uh Sj Sk uj NQ;have HS3:=L (bD HS2.out hb.size);have OC:=L (dK hoc (show w.heap.size<=wa.heap.size from by have:=HW1.out; have:=HS2.out; have:=HW2.out; omega));clear hoc hb HS2;have Ic:=jk wb (aZ (jY (par,3,y1,y2,y3,y4,(q1,q2,q3),(Y,0,0))).toArray 46);have hl:=nQ Pq wb [((par,3,y1,y2,y3,y4,(q1,q2,q3),(Y,0,0)):mY)] 1 rfl (by simp) (jY (par,3,y1,y2,y3,y4,(q1,q2,q3),(Y,0,0))).toArray (by simp [flat,EU]);have NR:=uq.out.on Ic;have OCb:=Bk.dL OC.out Ic;obtain⟨v',x,hrun,ho,gr⟩:=kr Pq w.heap.size NR.row (Row.dH hl) (by rw [NR.len,bP,bY]; have h1:=UL.out; omega) (by simp) (kS.out.trans (Ic.mono kS.out.size)).size 37;have hp:=NR.more gr ho (m:=[⟨par,3,(y1,y2),(y3,y4),e.p⟩]) (.cons (show QG _ _ _ _ from ⟨rfl,rfl,rfl,rfl,OCb,rfl⟩) .nil);have V0_:=L ((kS.out.trans (Ic.mono kS.out.size)).grown gr (kS.out.trans (Ic.mono kS.out.size)).size (fun j hj=>(NR.row.lt j hj).1));have V1_:=L (jq NR.row gr (XJ.out.on Ic) (by decide));have V2_:=L (jq NR.row gr (XK.out.on Ic) (by decide));have V3_:=L (jq NR.row gr (XL.out.on Ic) (by decide));have V4_:=L (jq NR.row gr (UW.out.on Ic) (by decide));have TG:=gV NR.row;have hoff:Off _ (wb.alloc (aZ (jY (par,3,y1,y2,y3,y4,(q1,q2,q3),(Y,0,0))).toArray 46)) x:=⟨fun j hj hne=>gr.block j hj hne,gr.size⟩;have V5_:=L (jo.app NR.row gr (uo.out.on Ic));have V6_:=L (hoff.own (Bk.dL XO.out Ic) TG (by decide));have V7_:=L (XP.out.mono fun _ _ q=>(q.grow Ic).off hoff TG (by decide));have V8_:=L hp;have V9_:=L (bD HS3.out (bD Ic.size hoff.2));have hrun:(Builtin.append_ #[37,37] 37 #[_,J (O ⟨wb.heap.size,0,Y⟩) 1 1]).run aB (wb.alloc (aZ (jY (par,3,y1,y2,y3,y4,(q1,q2,q3),(Y,0,0))).toArray 46))=.ok v' x:=hrun;clear hl NR OCb ho gr hp hoff TG Ic;go_wp2_with (first | (at_builtin; refine wpList_append_run rfl _ _ 37 rfl rfl rfl hrun ?_) | fail)
    go_roundw
    case rel=>exact⟨k+1,_,hlt,by go_num,V0_.out,V1_.out,V2_.out,V3_.out,V4_.out,V5_.out,V6_.out,V7_.out,by rw [US.out,show mU par e=⟨par,3,(y1,y2),(y3,y4),e.p⟩ from by unfold mU; rw [ZT.out,ZS.out]]; exact V8_.out,V9_.out⟩
    case measure=>simp [intOf]; omega
   ·obtain rfl:k=g2:=by omega
    have OE:=L (show mV wr w.heap.size _ lx (ups.map (mU par)) from by have h:=nL.out; rw [dD (by rw [<- UN.out]; exact aT _)] at h; exact h);go_upto_region 10 with fail;refine aaM _ wr w.heap.size (w.heap.size+1) (w.heap.size+1+1) (w.heap.size+1+1+1) w.heap.size me m1 m2 m3 m4 m5 m6 m7 m8 m9 m10 m11 m12 m13 m14 m15 par t1 t2 x1 x2 _ lx (ups.map (mU par)) (takeB b (t1,t2) (x1,x2) f).1 _ _ _ _ _ _ _ _ _ _ _ _ _ _ _ _ _ _ _ _ _ _ _ _ _ _ _ _ _ _ _ _ _ _ _ _ _ _ _ _ _ _ _ _ _ _ _ _ _ _ _ _ ND.out NG.out NH.out Gb.out (by omega) (by omega) (by omega) OE.out Dy.out.size (by rw [OE.out.len,bP]; exact UL.out) NJ.out (by omega) ?_;intro a y ly ra rc hd h6 h7 hbx hbl hbc hou;have BL:=L (Dy.out.trans hbl);have HC:=L hbc;have HO:=L hou;obtain⟨v0,v1,v2,v3,v4,v5⟩:=hbx.ig;simp only [Exit.then]
    apply_assumption
    go_wp2_with fail;refine bW (v:=.tuple #[aV #[U X me,J m1 m2 m3,J m4 m5 m6,J m7 m8 m9,J m10 m11 m12,J m13 m14 m15],J ra ly.length rc]) (by simp [results,Tryz.results48,go_sem,h6,h7,v0,v1,v2,v3,v4,v5]) hd ?_;rw [UE.out];simp only [if_true];exact⟨⟨(m1,m2,m3),(m4,m5,m6),(m7,m8,m9),(m10,m11,m12),(m13,m14,m15),(ra,ly.length,rc),ly,by rw [FM.out.2.2.1,ME.out],⟨HC.out.br,HC.out.no⟩,fun _=>HC.out,HO.out⟩,BL.out⟩
theorem Ie (b:Br) (s1:Option aF) (s2 s3:Nat) (s4:Option aF) (s5 s6:Nat) (s7:Option aF) (s8 s9:Nat) (s10:Option aF) (s11 s12:Nat) (s13:Option aF) (s14 s15:Nat) (t1 t2:Int) (w:aA) (h:ny w b (s1,s2,s3) (s4,s5,s6) (s7,s8,s9) (s10,s11,s12) (s13,s14,s15)) (hfp:mq b) :
  Calls aB 46 #[aV #[U X b.me,J s1 s2 s3,J s4 s5 s6,J s7 s8 s9,J s10 s11 s12,J s13 s14 s15],aV #[U X t1,U X t2]] w fun e w'=>e=.returned (U X (gT b (t1,t2)))/\Below w.heap.size w w':=by
 obtain⟨h0,X2,X3⟩:=jd w #[U X b.me,J s1 s2 s3,J s4 s5 s6,J s7 s8 s9,J s10 s11 s12,J s13 s14 s15] #[U X t1,U X t2] 30 23;obtain⟨la,ha1,ha2⟩:=h.dW;have SW:=L (Cx b.me (J s1 s2 s3) (J s7 s8 s9) (J s10 s11 s12) (J s13 s14 s15) (s4,s5,s6) la b.dW (t1,t2) _ (ha1.on h0) (ha2.mono fun _ _ q=>q.on h0) hfp.dW);have BB:=L h0;obtain⟨x0,x1,x2,x3,x4,x5⟩:=X2.ig;obtain⟨y0,y1⟩:=X3.cs2;clear h0 X2 X3 ha1 ha2 h hfp;go_enter Tryz.func46,Tryz.ntmps46;go_wp2_with fail;generalize (w.alloc (aZ #[U X b.me,J s1 s2 s3,J s4 s5 s6,J s7 s8 s9,J s10 s11 s12,J s13 s14 s15] 30)).alloc (aZ #[U X t1,U X t2] 23)=W at *;refine SW.out.mono ?_;rintro e1 w1 ⟨hq,hb⟩;obtain⟨⟨r1,r2,⟨ro,rn,rc⟩,r4⟩,kn,rfl,hin⟩:∃ (r:jS) (kn:Bool),e1=.returned (.tuple #[lJ r,aY kn])/\r.2.2.2=gT b (t1,t2):=by
  unfold gT;cases hfa:fM b.dW (t1,t2) with
  | none =>
   rw [hfa] at hq;exact⟨_,aG,hq,rfl⟩
  | some a =>
   rw [hfa] at hq;obtain⟨r,h1,h2⟩:=hq;exact⟨r,bf,h1,h2.2.1⟩
 have HI:=L hin;have BW:=L (BB.out.trans (hb.mono BB.out.size));clear hq hin hb SW x0 x1 x2 x3 x4 x5 y0 y1;go_wp2;go_ret;exact⟨by rw [<- HI.out]; rfl,(BW.out.alloc BW.out.size _)⟩
def aaT (_B:Nat) (_b3 b5 _bb:Nat) (P:Prop) (b:Br) (s1:Option aF) (s2 s3:Nat) (s4:Option aF) (s5 s6:Nat) (s7:Option aF) (s8 s9:Nat) (s10:Option aF) (s11 s12:Nat) (s13:Option aF) (s14 s15:Nat) (f _kd t1 t2 x1 x2:Int) (po:Option aF) (pn pc:Nat) (p:List C5) (i:Nat) (v:aU) (x:aA):Prop :=
 match i with
 | 0=>v=mg b.me (s1,s2,s3) (s4,s5,s6) (s7,s8,s9) (s10,s11,s12) (s13,s14,s15)
 | 1=>v=mg b.me (s1,s2,s3) (s4,s5,s6) (s7,s8,s9) (s10,s11,s12) (s13,s14,s15)
 | 2=>v=Z (O ⟨b5,1,Y⟩)
 | 3=>v=aV #[U X t1,U X t2]
 | 4=>v=U X (gT b (t1,t2))
 | 5=>v=Z (O ⟨b5,1,Y⟩)
 | 6=>v=aV #[U X t1,U X t2]
 | 7=>v=Z (O ⟨b5,3,Y⟩)
 | 8=>v=aV #[U X x1,U X x2]
 | 9=>v=Z (O ⟨b5,5,Y⟩)
 | 10=>v=J po pn pc
 | 11=>v=U X f
 | 12=>v=aV #[U X t1,U X t2,U X x1,U X x2,J po pn pc,U X f,aY aG]
 | 13=>∃ (nv av sv ev ov s:Sl) (lx:List mY),v=.tuple #[mg (fU b (gT b (t1,t2)) (⟨(t1,t2),(x1,x2),p,f,aG⟩:En)).1.me nv av sv ev ov,dQ s]/\mR x (fU b (gT b (t1,t2)) (⟨(t1,t2),(x1,x2),p,f,aG⟩:En)).1 nv av sv ev ov/\(P->jo x (fU b (gT b (t1,t2)) (⟨(t1,t2),(x1,x2),p,f,aG⟩:En)).1 nv av sv ev ov)/\mV x _B (dQ s) lx (fU b (gT b (t1,t2)) (⟨(t1,t2),(x1,x2),p,f,aG⟩:En)).2
 | 14=>∃ (nv av sv ev ov:Sl),v=mg (fU b (gT b (t1,t2)) (⟨(t1,t2),(x1,x2),p,f,aG⟩:En)).1.me nv av sv ev ov/\mR x (fU b (gT b (t1,t2)) (⟨(t1,t2),(x1,x2),p,f,aG⟩:En)).1 nv av sv ev ov/\(P->jo x (fU b (gT b (t1,t2)) (⟨(t1,t2),(x1,x2),p,f,aG⟩:En)).1 nv av sv ev ov)
 | 15=>∃ (s:Sl) (lx:List mY),v=dQ s/\mV x _B (dQ s) lx (fU b (gT b (t1,t2)) (⟨(t1,t2),(x1,x2),p,f,aG⟩:En)).2
 | 16=>True
 | 17=>∃ (s:Sl) (lx:List mY),v=dQ s/\mV x _B (dQ s) lx (fU b (gT b (t1,t2)) (⟨(t1,t2),(x1,x2),p,f,aG⟩:En)).2
 | _=>True
noncomputable def XQ:Code:=((Tryz.f11.body.bind (eU 1)).getD .skip)
theorem os1 (Q:Exit->Act->aA->Prop) (W:aA) (b3 b5 bb:Nat) (P:Prop) (b:Br) (s1:Option aF) (s2 s3:Nat) (s4:Option aF) (s5 s6:Nat) (s7:Option aF) (s8 s9:Nat) (s10:Option aF) (s11 s12:Nat) (s13:Option aF) (s14 s15:Nat) (f kd t1 t2 x1 x2:Int) (po:Option aF) (pn pc:Nat) (p:List C5) (u0 u2 u4 u7 u8 u9 u10 u11 u12 u13 u14 u15 u16 u17 u18 u19 u20 u21 u22 u23:aU)
  (jc:dG W bb #[U X 0,J Y 0 0,J Y 0 0,J Y 0 0,J Y 0 0,J Y 0 0] 30) (hx:dG W b3 #[U X b.me,J s1 s2 s3,J s4 s5 s6,J s7 s8 s9,J s10 s11 s12,J s13 s14 s15] 30) (hm:dG W b5 #[U X kd,U X t1,U X t2,U X x1,U X x2,J po pn pc,J Y 0 0] 43) (bn:mR W b (s1,s2,s3) (s4,s5,s6) (s7,s8,s9) (s10,s11,s12) (s13,s14,s15)) (XR:P->jo W b (s1,s2,s3) (s4,s5,s6) (s7,s8,s9) (s10,s11,s12) (s13,s14,s15)) (fb:xR b) (fp:mq b) (re:gK b.ent) (pe:∀ e∈b.ent,dN e.p) (hp:fF W (J po pn pc) p) (pp:dN p)
  (hQ:∀ (x:aA) (v8 v9 v10 v11 v12 v13 v14 v15 v16 v17 v18 v19 v20 v21 v22 v23:aU) (m1:Option aF) (m2 m3:Nat) (m4:Option aF) (m5 m6:Nat) (m7:Option aF) (m8 m9:Nat) (m10:Option aF) (m11 m12:Nat) (m13:Option aF) (m14 m15:Nat) (o1:Option aF) (o2 o3:Nat) (lx:List mY),dG x bb #[U X (fU b (gT b (t1,t2)) (⟨(t1,t2),(x1,x2),p,f,aG⟩:En)).1.me,J m1 m2 m3,J m4 m5 m6,J m7 m8 m9,J m10 m11 m12,J m13 m14 m15] 30->mR x (fU b (gT b (t1,t2)) (⟨(t1,t2),(x1,x2),p,f,aG⟩:En)).1 (m1,m2,m3) (m4,m5,m6) (m7,m8,m9) (m10,m11,m12) (m13,m14,m15)->(P->jo x (fU b (gT b (t1,t2)) (⟨(t1,t2),(x1,x2),p,f,aG⟩:En)).1 (m1,m2,m3) (m4,m5,m6) (m7,m8,m9) (m10,m11,m12) (m13,m14,m15))->mV x W.heap.size (dQ (o1,o2,o3)) lx (fU b (gT b (t1,t2)) (⟨(t1,t2),(x1,x2),p,f,aG⟩:En)).2->Rg.Qv bb W x->Q .normal ⟨(u0::U X f::u2::Z (O ⟨b3,0,Y⟩)::u4::Z (O ⟨b5,0,Y⟩)::Z (O ⟨bb,0,Y⟩)::dQ (o1,o2,o3)::v8::v9::v10::v11::v12::v13::v14::v15::v16::v17::v18::v19::v20::v21::v22::v23::[]).toArray,[]⟩ x) :
  Code.wp aB XQ Q ⟨(u0::U X f::u2::Z (O ⟨b3,0,Y⟩)::u4::Z (O ⟨b5,0,Y⟩)::Z (O ⟨bb,0,Y⟩)::u7::u8::u9::u10::u11::u12::u13::u14::u15::u16::u17::u18::u19::u20::u21::u22::u23::[]).toArray,[]⟩ W:=by
 have HQ:=L hQ;have HB:=L jc;have HX:=L hx;have HM:=L hm;have BN:=L bn;have XT:=L XR;have FB:=L fb;have FP:=L fp;have RE:=L re;have PE:=L pe;have HP:=L hp;have PP:=L pp;clear hQ jc hx hm bn XR fb fp re pe hp pp;unfold XQ
 conv=>arg 2; whnf
 have XU:∀ i,i<18->[8,9,10,11,12,13,14,15,16,17,18,19,20,21,22,23,22,7].getD i 0≠1:=by decide
 have UZ:∀ i,i<18->[8,9,10,11,12,13,14,15,16,17,18,19,20,21,22,23,22,7].getD i 0≠3:=by decide
 have Sn:∀ i,i<18->[8,9,10,11,12,13,14,15,16,17,18,19,20,21,22,23,22,7].getD i 0≠5:=by decide
 have nb6:∀ i,i<18->[8,9,10,11,12,13,14,15,16,17,18,19,20,21,22,23,22,7].getD i 0≠6:=by decide
 refine Rg.zh 18 16 14 (fun i=>[8,9,10,11,12,13,14,15,16,17,18,19,20,21,22,23,22,7].getD i 0) (fun i=>18) (aaT W.heap.size b3 b5 bb P b s1 s2 s3 s4 s5 s6 s7 s8 s9 s10 s11 s12 s13 s14 s15 f kd t1 t2 x1 x2 po pn pc p) (fun i=>i == 15 || i == 17) 30 bb #[U X 0,J Y 0 0,J Y 0 0,J Y 0 0,J Y 0 0,J Y 0 0] (fun v=>match v with | aV c=>c | _=>#[]) (by kernel_rfl) (by kernel_rfl) rfl (by decide) (by decide) (by decide) (by decide) HB.out (fun i j hi hj h1 h2 h=>(by decide:∀ i,i<18->∀ j,j<18->i≠16->j≠16->[8,9,10,11,12,13,14,15,16,17,18,19,20,21,22,23,22,7].getD i 0=[8,9,10,11,12,13,14,15,16,17,18,19,20,21,22,23,22,7].getD j 0->i=j) i hi j hj h1 h2 h) (fun i hi _=>(by decide:∀ i,i<18->[8,9,10,11,12,13,14,15,16,17,18,19,20,21,22,23,22,7].getD i 0<24) i hi) ?_ ?_ (by decide) ?_ ?_ (fun j h1 h2=>(by decide:∀ j,j<18->j≠16->18<=(fun i=>18) j\/((fun i=>18) j<18/\(fun i=>18) j≠16/\(fun i=>i == 15 || i == 17) ((fun i=>18) j)=aG)) j h1 h2) ?_
 ·intro i v x x' hi h hb;rcases (by omega:i=0\/i=1\/i=2\/i=3\/i=4\/i=5\/i=6\/i=7\/i=8\/i=9\/i=10\/i=11\/i=12\/i=13\/i=14\/i=15\/i=16\/i=17) with rfl|rfl|rfl|rfl|rfl|rfl|rfl|rfl|rfl|rfl|rfl|rfl|rfl|rfl|rfl|rfl|rfl|rfl
  ·exact h
  ·exact h
  ·exact h
  ·exact h
  ·exact h
  ·exact h
  ·exact h
  ·exact h
  ·exact h
  ·exact h
  ·exact h
  ·exact h
  ·exact h
  ·obtain⟨a1,a2,a3,a4,a5,a6,lx,h1,h2,h3,h4⟩:=h; exact⟨a1,a2,a3,a4,a5,a6,lx,h1,h2.on hb,fun q=>(h3 q).on hb,h4.on hb⟩
  ·obtain⟨a1,a2,a3,a4,a5,h1,h2,h3⟩:=h; exact⟨a1,a2,a3,a4,a5,h1,h2.on hb,fun q=>(h3 q).on hb⟩
  ·obtain⟨s,lx,h1,h2⟩:=h; exact⟨s,lx,h1,h2.on hb⟩
  ·exact h
  ·obtain⟨s,lx,h1,h2⟩:=h; exact⟨s,lx,h1,h2.on hb⟩
 ·intro o ho i hi uJ hfi;cases ho;have h15:i≠15:=fun e=>by rw [e] at hfi; simp at hfi
  have h17:i≠17:=fun e=>by rw [e] at hfi; simp at hfi
  rcases (by omega:i=0\/i=1\/i=2\/i=3\/i=4\/i=5\/i=6\/i=7\/i=8\/i=9\/i=10\/i=11\/i=12\/i=13\/i=14) with rfl|rfl|rfl|rfl|rfl|rfl|rfl|rfl|rfl|rfl|rfl|rfl|rfl|rfl|rfl
  ·exact⟨⟨0,.phase⟩,by simp,rfl,rfl⟩
  ·exact⟨⟨1,.phase⟩,by simp,rfl,rfl⟩
  ·exact⟨⟨2,.phase⟩,by simp,rfl,rfl⟩
  ·exact⟨⟨3,.phase⟩,by simp,rfl,rfl⟩
  ·exact⟨⟨4,.phase⟩,by simp,rfl,rfl⟩
  ·exact⟨⟨5,.phase⟩,by simp,rfl,rfl⟩
  ·exact⟨⟨6,.phase⟩,by simp,rfl,rfl⟩
  ·exact⟨⟨7,.phase⟩,by simp,rfl,rfl⟩
  ·exact⟨⟨8,.phase⟩,by simp,rfl,rfl⟩
  ·exact⟨⟨9,.phase⟩,by simp,rfl,rfl⟩
  ·exact⟨⟨10,.phase⟩,by simp,rfl,rfl⟩
  ·exact⟨⟨11,.phase⟩,by simp,rfl,rfl⟩
  ·exact⟨⟨12,.phase⟩,by simp,rfl,rfl⟩
  ·exact⟨⟨13,.chain⟩,by simp,rfl,rfl⟩
  ·exact⟨⟨14,.data⟩,by simp,rfl,rfl⟩
 ·intro i o hi uJ ho a x hpre seen K hK;clear HQ;rcases (by omega:i=0\/i=1\/i=2\/i=3\/i=4\/i=5\/i=6\/i=7\/i=8\/i=9\/i=10\/i=11\/i=12\/i=13\/i=14\/i=15\/i=17) with rfl|rfl|rfl|rfl|rfl|rfl|rfl|rfl|rfl|rfl|rfl|rfl|rfl|rfl|rfl|rfl|rfl
  ·cases ho;obtain⟨hb,hbx⟩:=hpre rfl;have e3:a.eval (ah 3)=Z (O ⟨b3,0,Y⟩):=seen.kp 3 _ UZ rfl;exact aK rfl rfl (cK a.eval _ 30 (ah 3) rfl (by rw [e3]; exact Aj (HX.out.on hb))) (hK _ x rfl (ay _ _))
  ·cases ho;obtain⟨hb,hbx⟩:=hpre rfl;have e3:a.eval (ah 3)=Z (O ⟨b3,0,Y⟩):=seen.kp 3 _ UZ rfl;exact aK rfl rfl (cK a.eval _ 30 (ah 3) rfl (by rw [e3]; exact Aj (HX.out.on hb))) (hK _ x rfl (ay _ _))
  ·cases ho;obtain⟨hb,hbx⟩:=hpre rfl;have e5:a.eval (ah 5)=Z (O ⟨b5,0,Y⟩):=seen.kp 5 _ Sn rfl;exact aK rfl rfl (Rg.eD a.eval _ 43 (ah 5) 1 rfl (by rw [e5]; simp [go_sem])) (hK _ x rfl (ay _ _))
  ·cases ho;obtain⟨hb,hbx⟩:=hpre rfl;have e10:a.eval (ah 10)=Z (O ⟨b5,1,Y⟩):=seen.at_ ⟨2,.data⟩ (by simp) rfl (by decide) (aj (by decide));have y1:=(HM.out.on hb).cell 1;have y2:=(HM.out.on hb).cell 2;simp only [ak,aC,aD] at y1 y2;exact aK rfl rfl (cK a.eval _ 23 (ah 10) rfl (by rw [e10]; simp [go_sem,y1,y2])) (hK _ x rfl (ay _ _))
  ·cases ho;obtain⟨hb,hbx⟩:=hpre rfl;have e9:a.eval (ah 9)=mg b.me (s1,s2,s3) (s4,s5,s6) (s7,s8,s9) (s10,s11,s12) (s13,s14,s15):=seen.at_ ⟨1,.data⟩ (by simp) rfl (by decide) (aj (by decide));have e11:a.eval (ah 11)=aV #[U X t1,U X t2]:=seen.at_ ⟨3,.data⟩ (by simp) rfl (by decide) (aj (by decide));exact Rg.fZ rfl rfl (Rw.kE a.eval _ (ah 9) (ah 11) 30 23 46 rfl e9 e11 rfl _ (fD Tryz.func46 rfl rfl _ _)) (Ie b s1 s2 s3 s4 s5 s6 s7 s8 s9 s10 s11 s12 s13 s14 s15 t1 t2 x (BN.out.on hb).br FP.out) fun e w1 h=>by
    obtain⟨rfl,h5⟩:=h;exact⟨_,rfl,hK _ _ rfl h5⟩
  ·cases ho;obtain⟨hb,hbx⟩:=hpre rfl;have e5:a.eval (ah 5)=Z (O ⟨b5,0,Y⟩):=seen.kp 5 _ Sn rfl;exact aK rfl rfl (Rg.eD a.eval _ 43 (ah 5) 1 rfl (by rw [e5]; simp [go_sem])) (hK _ x rfl (ay _ _))
  ·cases ho;obtain⟨hb,hbx⟩:=hpre rfl;have e13:a.eval (ah 13)=Z (O ⟨b5,1,Y⟩):=seen.at_ ⟨5,.data⟩ (by simp) rfl (by decide) (aj (by decide));have y1:=(HM.out.on hb).cell 1;have y2:=(HM.out.on hb).cell 2;simp only [ak,aC,aD] at y1 y2;exact aK rfl rfl (cK a.eval _ 23 (ah 13) rfl (by rw [e13]; simp [go_sem,y1,y2])) (hK _ x rfl (ay _ _))
  ·cases ho;obtain⟨hb,hbx⟩:=hpre rfl;have e5:a.eval (ah 5)=Z (O ⟨b5,0,Y⟩):=seen.kp 5 _ Sn rfl;exact aK rfl rfl (Rg.eD a.eval _ 43 (ah 5) 2 rfl (by rw [e5]; simp [go_sem])) (hK _ x rfl (ay _ _))
  ·cases ho;obtain⟨hb,hbx⟩:=hpre rfl;have e15:a.eval (ah 15)=Z (O ⟨b5,3,Y⟩):=seen.at_ ⟨7,.data⟩ (by simp) rfl (by decide) (aj (by decide));have y3:=(HM.out.on hb).cell 3;have y4:=(HM.out.on hb).cell 4;simp only [ak,aC,aD] at y3 y4;exact aK rfl rfl (cK a.eval _ 23 (ah 15) rfl (by rw [e15]; simp [go_sem,y3,y4])) (hK _ x rfl (ay _ _))
  ·cases ho;obtain⟨hb,hbx⟩:=hpre rfl;have e5:a.eval (ah 5)=Z (O ⟨b5,0,Y⟩):=seen.kp 5 _ Sn rfl;exact aK rfl rfl (Rg.eD a.eval _ 43 (ah 5) 3 rfl (by rw [e5]; simp [go_sem])) (hK _ x rfl (ay _ _))
  ·cases ho;obtain⟨hb,hbx⟩:=hpre rfl;have e17:a.eval (ah 17)=Z (O ⟨b5,5,Y⟩):=seen.at_ ⟨9,.data⟩ (by simp) rfl (by decide) (aj (by decide));have y5:=(HM.out.on hb).cell 5;simp only [ak,aC,aD] at y5;exact aK rfl rfl (cK a.eval _ 34 (ah 17) rfl (by rw [e17]; simp [go_sem,y5])) (hK _ x rfl (ay _ _))
  ·cases ho;obtain⟨hb,hbx⟩:=hpre rfl;have e1:a.eval (ah 1)=U X f:=seen.kp 1 _ XU rfl;exact aK rfl rfl (Rg.iZ a.eval _ (ah 1) rfl x) (hK _ x e1 (ay _ _))
  ·cases ho;obtain⟨hb,hbx⟩:=hpre rfl;have e14:a.eval (ah 14)=aV #[U X t1,U X t2]:=seen.at_ ⟨6,.data⟩ (by simp) rfl (by decide) (aj (by decide));have e16:a.eval (ah 16)=aV #[U X x1,U X x2]:=seen.at_ ⟨8,.data⟩ (by simp) rfl (by decide) (aj (by decide));have e18:a.eval (ah 18)=J po pn pc:=seen.at_ ⟨10,.data⟩ (by simp) rfl (by decide) (aj (by decide));have e19:a.eval (ah 19)=U X f:=seen.at_ ⟨11,.data⟩ (by simp) rfl (by decide) (aj (by decide));exact aK rfl rfl (Rg.jD a.eval _ 67 #[(0,ah 14),(1,ah 16),(2,ah 18),(3,ah 19)] rfl (ps:=#[(0,aV #[U X t1,U X t2]),(1,aV #[U X x1,U X x2]),(2,J po pn pc),(3,U X f)]) (by simp only [bL,bF,bK,e14,e16,e18,e19]) (by simp [go_sem])) (hK _ x rfl (ay _ _))
  ·cases ho;obtain⟨hb,hbx⟩:=hpre rfl;have e8:a.eval (ah 8)=mg b.me (s1,s2,s3) (s4,s5,s6) (s7,s8,s9) (s10,s11,s12) (s13,s14,s15):=seen.at_ ⟨0,.data⟩ (by simp) rfl (by decide) (aj (by decide));have e12:a.eval (ah 12)=U X (gT b (t1,t2)):=seen.at_ ⟨4,.data⟩ (by simp) rfl (by decide) (aj (by decide));have e20:a.eval (ah 20)=aV #[U X t1,U X t2,U X x1,U X x2,J po pn pc,U X f,aY aG]:=seen.at_ ⟨12,.data⟩ (by simp) rfl (by decide) (aj (by decide));exact Rg.fZ rfl rfl (sM a.eval _ (ah 8) (ah 12) (ah 20) 30 3 67 45 rfl e8 e12 e20 rfl _ (fD Tryz.func45 rfl rfl _ _)) (zI b s1 s2 s3 s4 s5 s6 s7 s8 s9 s10 s11 s12 s13 s14 s15 (gT b (t1,t2)) t1 t2 x1 x2 po pn pc f aG (⟨(t1,t2),(x1,x2),p,f,aG⟩:En) x (BN.out.on hb) ⟨rfl,rfl,rfl,rfl,HP.out.on hb⟩ FB.out FP.out RE.out PE.out PP.out) fun e w1 h=>by
    obtain⟨⟨a1,a2,a3,a4,a5,a6,lx,rfl,h2,h3,h4⟩,h5⟩:=h;exact⟨_,rfl,hK _ _ ⟨a1,a2,a3,a4,a5,a6,lx,rfl,h2,fun q=>h3 (XT.out q |>.on hb),h4.le hb.size⟩ h5⟩
  ·cases ho;obtain⟨hb,hbx⟩:=hpre rfl;have Xn:=seen.at_ ⟨13,.data⟩ (by simp) rfl (by decide) (aj (by decide));obtain⟨a1,a2,a3,a4,a5,a6,_,h1,h2,h3,_⟩:=Xn;exact aK rfl rfl (jB a.eval _ (ah 21) 0 rfl (c:=#[mg (fU b (gT b (t1,t2)) (⟨(t1,t2),(x1,x2),p,f,aG⟩:En)).1.me a1 a2 a3 a4 a5,dQ a6]) h1 rfl x) (hK _ x ⟨a1,a2,a3,a4,a5,rfl,h2,h3⟩ (ay _ _))
  ·cases ho;have Xn:=seen.at_ ⟨13,.data⟩ (by simp) rfl (by decide) (aj (by decide));obtain⟨a1,a2,a3,a4,a5,a6,lx,h1,_,_,h4⟩:=Xn;exact aK rfl rfl (jB a.eval _ (ah 21) 1 rfl (c:=#[mg (fU b (gT b (t1,t2)) (⟨(t1,t2),(x1,x2),p,f,aG⟩:En)).1.me a1 a2 a3 a4 a5,dQ a6]) h1 rfl x) (hK _ x ⟨a6,lx,rfl,h4⟩ (ay _ _))
  ·cases ho;have E23:=seen.at_ ⟨15,.data⟩ (by simp) rfl (by decide) (aj (by decide));exact aK rfl rfl (Rg.kY a.eval _ (ah 23) rfl x) (hK _ x E23 (ay _ _))
 ·intro o ho a x v hb hbx hC AZ hbase K hK;clear HQ;cases ho;have eB:a.eval (ah 6)=Z (O ⟨bb,0,Y⟩):=hbase 6 _ rfl nb6;obtain⟨⟨m1,m2,m3⟩,⟨m4,m5,m6⟩,⟨m7,m8,m9⟩,⟨m10,m11,m12⟩,⟨m13,m14,m15⟩,hv1,hv2,hv3⟩:=AZ;subst hv1;have iO:=au x bb (U X (fU b (gT b (t1,t2)) (⟨(t1,t2),(x1,x2),p,f,aG⟩:En)).1.me) (J m1 m2 m3) (J m4 m5 m6) (J m7 m8 m9) (J m10 m11 m12) (J m13 m14 m15);refine Rg.gI 30 (ah 6) (ah 22) rfl rfl rfl rfl eB hC (w':=iY x bb (U X (fU b (gT b (t1,t2)) (⟨(t1,t2),(x1,x2),p,f,aG⟩:En)).1.me) (J m1 m2 m3) (J m4 m5 m6) (J m7 m8 m9) (J m10 m11 m12) (J m13 m14 m15)) (p8 hbx _ _ _ _ _ _ _ _ _ _ _ _ _ _ _ _) (hK _ iO (fun B w hB h=>dI h hB _ _ _ _ _ _) (dX hbx _ _ _ _ _ _) ?_);exact fun j u hj Zq hl h=>by
   rcases (by omega:j=0\/j=1\/j=2\/j=3\/j=4\/j=5\/j=6\/j=7\/j=8\/j=9\/j=10\/j=11\/j=12\/j=13\/j=14\/j=15\/j=17) with rfl|rfl|rfl|rfl|rfl|rfl|rfl|rfl|rfl|rfl|rfl|rfl|rfl|rfl|rfl|rfl|rfl
   ·have h2:u=mg b.me (s1,s2,s3) (s4,s5,s6) (s7,s8,s9) (s10,s11,s12) (s13,s14,s15):=h; exact h2
   ·have h2:u=mg b.me (s1,s2,s3) (s4,s5,s6) (s7,s8,s9) (s10,s11,s12) (s13,s14,s15):=h; exact h2
   ·have h2:u=Z (O ⟨b5,1,Y⟩):=h; exact h2
   ·have h2:u=aV #[U X t1,U X t2]:=h; exact h2
   ·have h2:u=U X (gT b (t1,t2)):=h; exact h2
   ·have h2:u=Z (O ⟨b5,1,Y⟩):=h; exact h2
   ·have h2:u=aV #[U X t1,U X t2]:=h; exact h2
   ·have h2:u=Z (O ⟨b5,3,Y⟩):=h; exact h2
   ·have h2:u=aV #[U X x1,U X x2]:=h; exact h2
   ·have h2:u=Z (O ⟨b5,5,Y⟩):=h; exact h2
   ·have h2:u=J po pn pc:=h; exact h2
   ·have h2:u=U X f:=h; exact h2
   ·have h2:u=aV #[U X t1,U X t2,U X x1,U X x2,J po pn pc,U X f,aY aG]:=h; exact h2
   ·obtain⟨a1,a2,a3,a4,a5,a6,lx,h1,h2,h3,h4⟩:=h; exact⟨a1,a2,a3,a4,a5,a6,lx,h1,h2.keep (s1:=(Y,0,0)) (s2:=(Y,0,0)) (s3:=(Y,0,0)) (s4:=(Y,0,0)) (s5:=(Y,0,0)) (me:=0) hbx iO,fun q=>(h3 q).nY iO hbx (by decide) (by decide) (by decide) (by decide) (by decide) (by decide),h4.but iO hbx (by decide) (by decide)⟩
   ·obtain⟨a1,a2,a3,a4,a5,h1,h2,h3⟩:=h; exact⟨a1,a2,a3,a4,a5,h1,h2.keep (s1:=(Y,0,0)) (s2:=(Y,0,0)) (s3:=(Y,0,0)) (s4:=(Y,0,0)) (s5:=(Y,0,0)) (me:=0) hbx iO,fun q=>(h3 q).nY iO hbx (by decide) (by decide) (by decide) (by decide) (by decide) (by decide)⟩
   ·obtain⟨s,lx,h1,h2⟩:=h; exact⟨s,lx,h1,h2.but iO hbx (by decide) (by decide)⟩
   ·obtain⟨s,lx,h1,h2⟩:=h; exact⟨s,lx,h1,h2.but iO hbx (by decide) (by decide)⟩
 ·intro a x v df sz kp gC hbx AZ U0 ⟨vs,hv⟩;obtain⟨⟨m1,m2,m3⟩,⟨m4,m5,m6⟩,⟨m7,m8,m9⟩,⟨m10,m11,m12⟩,⟨m13,m14,m15⟩,hv1,hv2,hv3⟩:=AZ;subst hv1;obtain⟨⟨o1,o2,o3⟩,lx,ho1,ho2⟩:=(hv 17 (by decide) (by decide)).2 (by decide);have g7:a.tmps[7]?=O (dQ (o1,o2,o3)):=by
   rw [<- ho1];exact (hv 17 (by decide) (by decide)).1
  have uI:∀ j,(j<7\/24<=j)->a.tmps[j]?=(u0::U X f::u2::Z (O ⟨b3,0,Y⟩)::u4::Z (O ⟨b5,0,Y⟩)::Z (O ⟨bb,0,Y⟩)::u7::u8::u9::u10::u11::u12::u13::u14::u15::u16::u17::u18::u19::u20::u21::u22::u23::[])[j]?:=fun j hj=>(kp j (fun i hi h=>by have:=(by decide:∀ i,i<18->7<=[8,9,10,11,12,13,14,15,16,17,18,19,20,21,22,23,22,7].getD i 0/\[8,9,10,11,12,13,14,15,16,17,18,19,20,21,22,23,22,7].getD i 0<24) i hi; omega)).trans ak;obtain⟨mid,hmid,rfl⟩:=Rg.iA 7 17 df (by rw [sz]; rfl) (by simp) uI
  match mid,hmid with
  | [v7,v8,v9,v10,v11,v12,v13,v14,v15,v16,v17,v18,v19,v20,v21,v22,v23],_ =>
   obtain rfl:v7=dQ (o1,o2,o3):=aQ g7;exact HQ.out x _ _ _ _ _ _ _ _ _ _ _ _ _ _ _ _ m1 m2 m3 m4 m5 m6 m7 m8 m9 m10 m11 m12 m13 m14 m15 o1 o2 o3 lx hbx hv2 hv3 ho2 U0
theorem JZ {P:Program} (ρ:Operand->aU) (o:Oper) (x y z u v:Operand) (t s r q p:TypeId) (f:FuncId) (ho:o.op=.call { callee:=.value (.func f),args:=#[x,y,z,u,v],argTypes:=#[t,s,r,q,p] }) {v1 v2 v3 v4 v5:aU} (hx:ρ x=v1) (hy:ρ y=v2) (hz:ρ z=v3) (hu:ρ u=v4) (hv:ρ v=v5) (hf:ρ (.func f)=.func (.func f) #[] #[]) (w:aA)
  (hc:(callFunc f #[v1,v2,v3,v4,v5]).run P w=.ok (.enter f #[v1,v2,v3,v4,v5]) w):(execOp ρ o).run P w=.ok (.enter f #[v1,v2,v3,v4,v5]) w:=by
 simp [execOp,ho,resolve,invoke,hx,hy,hz,hu,hv,hf,Deferred.ofValue,hc]
def aaV (_B:Nat) (_b3 b5 _bb:Nat) (P:Prop) (b:Br) (s1:Option aF) (s2 s3:Nat) (s4:Option aF) (s5 s6:Nat) (s7:Option aF) (s8 s9:Nat) (s10:Option aF) (s11 s12:Nat) (s13:Option aF) (s14 s15:Nat) (f _kd t1 t2 x1 x2:Int) (_po:Option aF) (_pn _pc:Nat) (i:Nat) (v:aU) (x:aA):Prop :=
 match i with
 | 0=>v=mg b.me (s1,s2,s3) (s4,s5,s6) (s7,s8,s9) (s10,s11,s12) (s13,s14,s15)
 | 1=>v=mg b.me (s1,s2,s3) (s4,s5,s6) (s7,s8,s9) (s10,s11,s12) (s13,s14,s15)
 | 2=>v=Z (O ⟨b5,1,Y⟩)
 | 3=>v=aV #[U X t1,U X t2]
 | 4=>v=U X (gT b (t1,t2))
 | 5=>v=Z (O ⟨b5,1,Y⟩)
 | 6=>v=aV #[U X t1,U X t2]
 | 7=>v=Z (O ⟨b5,3,Y⟩)
 | 8=>v=aV #[U X x1,U X x2]
 | 9=>v=U X f
 | 10=>∃ (nv av sv ev ov s:Sl) (lx:List mY),v=.tuple #[mg (gG b (gT b (t1,t2)) (t1,t2) (x1,x2) f).1.me nv av sv ev ov,dQ s]/\mR x (gG b (gT b (t1,t2)) (t1,t2) (x1,x2) f).1 nv av sv ev ov/\(P->jo x (gG b (gT b (t1,t2)) (t1,t2) (x1,x2) f).1 nv av sv ev ov)/\mV x _B (dQ s) lx (gG b (gT b (t1,t2)) (t1,t2) (x1,x2) f).2
 | 11=>∃ (nv av sv ev ov:Sl),v=mg (gG b (gT b (t1,t2)) (t1,t2) (x1,x2) f).1.me nv av sv ev ov/\mR x (gG b (gT b (t1,t2)) (t1,t2) (x1,x2) f).1 nv av sv ev ov/\(P->jo x (gG b (gT b (t1,t2)) (t1,t2) (x1,x2) f).1 nv av sv ev ov)
 | 12=>∃ (s:Sl) (lx:List mY),v=dQ s/\mV x _B (dQ s) lx (gG b (gT b (t1,t2)) (t1,t2) (x1,x2) f).2
 | 13=>True
 | 14=>∃ (s:Sl) (lx:List mY),v=dQ s/\mV x _B (dQ s) lx (gG b (gT b (t1,t2)) (t1,t2) (x1,x2) f).2
 | _=>True
noncomputable def XV:Code:=((Tryz.f20.body.bind (eU 1)).getD .skip)
theorem ou1 (Q:Exit->Act->aA->Prop) (W:aA) (b3 b5 bb:Nat) (P:Prop) (b:Br) (s1:Option aF) (s2 s3:Nat) (s4:Option aF) (s5 s6:Nat) (s7:Option aF) (s8 s9:Nat) (s10:Option aF) (s11 s12:Nat) (s13:Option aF) (s14 s15:Nat) (f kd t1 t2 x1 x2:Int) (po:Option aF) (pn pc:Nat) (u0 u2 u4 u7 u8 u9 u10 u11 u12 u13 u14 u15 u16 u17 u18 u19 u20:aU)
  (jc:dG W bb #[U X 0,J Y 0 0,J Y 0 0,J Y 0 0,J Y 0 0,J Y 0 0] 30) (hx:dG W b3 #[U X b.me,J s1 s2 s3,J s4 s5 s6,J s7 s8 s9,J s10 s11 s12,J s13 s14 s15] 30) (hm:dG W b5 #[U X kd,U X t1,U X t2,U X x1,U X x2,J po pn pc,J Y 0 0] 43) (bn:mR W b (s1,s2,s3) (s4,s5,s6) (s7,s8,s9) (s10,s11,s12) (s13,s14,s15)) (XR:P->jo W b (s1,s2,s3) (s4,s5,s6) (s7,s8,s9) (s10,s11,s12) (s13,s14,s15)) (fb:xR b) (fp:mq b) (re:gK b.ent) (pe:∀ e∈b.ent,dN e.p)
  (hQ:∀ (x:aA) (v8 v9 v10 v11 v12 v13 v14 v15 v16 v17 v18 v19 v20:aU) (m1:Option aF) (m2 m3:Nat) (m4:Option aF) (m5 m6:Nat) (m7:Option aF) (m8 m9:Nat) (m10:Option aF) (m11 m12:Nat) (m13:Option aF) (m14 m15:Nat) (o1:Option aF) (o2 o3:Nat) (lx:List mY),dG x bb #[U X (gG b (gT b (t1,t2)) (t1,t2) (x1,x2) f).1.me,J m1 m2 m3,J m4 m5 m6,J m7 m8 m9,J m10 m11 m12,J m13 m14 m15] 30->mR x (gG b (gT b (t1,t2)) (t1,t2) (x1,x2) f).1 (m1,m2,m3) (m4,m5,m6) (m7,m8,m9) (m10,m11,m12) (m13,m14,m15)->(P->jo x (gG b (gT b (t1,t2)) (t1,t2) (x1,x2) f).1 (m1,m2,m3) (m4,m5,m6) (m7,m8,m9) (m10,m11,m12) (m13,m14,m15))->mV x W.heap.size (dQ (o1,o2,o3)) lx (gG b (gT b (t1,t2)) (t1,t2) (x1,x2) f).2->Rg.Qv bb W x->Q .normal ⟨(u0::U X f::u2::Z (O ⟨b3,0,Y⟩)::u4::Z (O ⟨b5,0,Y⟩)::Z (O ⟨bb,0,Y⟩)::dQ (o1,o2,o3)::v8::v9::v10::v11::v12::v13::v14::v15::v16::v17::v18::v19::v20::[]).toArray,[]⟩ x) :
  Code.wp aB XV Q ⟨(u0::U X f::u2::Z (O ⟨b3,0,Y⟩)::u4::Z (O ⟨b5,0,Y⟩)::Z (O ⟨bb,0,Y⟩)::u7::u8::u9::u10::u11::u12::u13::u14::u15::u16::u17::u18::u19::u20::[]).toArray,[]⟩ W:=by
 have HQ:=L hQ;have HB:=L jc;have HX:=L hx;have HM:=L hm;have BN:=L bn;have XT:=L XR;have FB:=L fb;have FP:=L fp;have RE:=L re;have PE:=L pe;clear hQ jc hx hm bn XR fb fp re pe;unfold XV
 conv=>arg 2; whnf
 have XU:∀ i,i<15->[8,9,10,11,12,13,14,15,16,17,18,19,20,19,7].getD i 0≠1:=by decide
 have UZ:∀ i,i<15->[8,9,10,11,12,13,14,15,16,17,18,19,20,19,7].getD i 0≠3:=by decide
 have Sn:∀ i,i<15->[8,9,10,11,12,13,14,15,16,17,18,19,20,19,7].getD i 0≠5:=by decide
 have nb6:∀ i,i<15->[8,9,10,11,12,13,14,15,16,17,18,19,20,19,7].getD i 0≠6:=by decide
 refine Rg.zh 15 13 11 (fun i=>[8,9,10,11,12,13,14,15,16,17,18,19,20,19,7].getD i 0) (fun i=>15) (aaV W.heap.size b3 b5 bb P b s1 s2 s3 s4 s5 s6 s7 s8 s9 s10 s11 s12 s13 s14 s15 f kd t1 t2 x1 x2 po pn pc) (fun i=>i == 12 || i == 14) 30 bb #[U X 0,J Y 0 0,J Y 0 0,J Y 0 0,J Y 0 0,J Y 0 0] (fun v=>match v with | aV c=>c | _=>#[]) (by kernel_rfl) (by kernel_rfl) rfl (by decide) (by decide) (by decide) (by decide) HB.out (fun i j hi hj h1 h2 h=>(by decide:∀ i,i<15->∀ j,j<15->i≠13->j≠13->[8,9,10,11,12,13,14,15,16,17,18,19,20,19,7].getD i 0=[8,9,10,11,12,13,14,15,16,17,18,19,20,19,7].getD j 0->i=j) i hi j hj h1 h2 h) (fun i hi _=>(by decide:∀ i,i<15->[8,9,10,11,12,13,14,15,16,17,18,19,20,19,7].getD i 0<21) i hi) ?_ ?_ (by decide) ?_ ?_ (fun j h1 h2=>(by decide:∀ j,j<15->j≠13->15<=(fun i=>15) j\/((fun i=>15) j<15/\(fun i=>15) j≠13/\(fun i=>i == 12 || i == 14) ((fun i=>15) j)=aG)) j h1 h2) ?_
 ·intro i v x x' hi h hb;rcases (by omega:i=0\/i=1\/i=2\/i=3\/i=4\/i=5\/i=6\/i=7\/i=8\/i=9\/i=10\/i=11\/i=12\/i=13\/i=14) with rfl|rfl|rfl|rfl|rfl|rfl|rfl|rfl|rfl|rfl|rfl|rfl|rfl|rfl|rfl
  ·exact h
  ·exact h
  ·exact h
  ·exact h
  ·exact h
  ·exact h
  ·exact h
  ·exact h
  ·exact h
  ·exact h
  ·obtain⟨a1,a2,a3,a4,a5,a6,lx,h1,h2,h3,h4⟩:=h; exact⟨a1,a2,a3,a4,a5,a6,lx,h1,h2.on hb,fun q=>(h3 q).on hb,h4.on hb⟩
  ·obtain⟨a1,a2,a3,a4,a5,h1,h2,h3⟩:=h; exact⟨a1,a2,a3,a4,a5,h1,h2.on hb,fun q=>(h3 q).on hb⟩
  ·obtain⟨s,lx,h1,h2⟩:=h; exact⟨s,lx,h1,h2.on hb⟩
  ·exact h
  ·obtain⟨s,lx,h1,h2⟩:=h; exact⟨s,lx,h1,h2.on hb⟩
 ·intro o ho i hi uJ hfi;cases ho;have h12:i≠12:=fun e=>by rw [e] at hfi; simp at hfi
  have h14:i≠14:=fun e=>by rw [e] at hfi; simp at hfi
  rcases (by omega:i=0\/i=1\/i=2\/i=3\/i=4\/i=5\/i=6\/i=7\/i=8\/i=9\/i=10\/i=11) with rfl|rfl|rfl|rfl|rfl|rfl|rfl|rfl|rfl|rfl|rfl|rfl
  ·exact⟨⟨0,.phase⟩,by simp,rfl,rfl⟩
  ·exact⟨⟨1,.phase⟩,by simp,rfl,rfl⟩
  ·exact⟨⟨2,.phase⟩,by simp,rfl,rfl⟩
  ·exact⟨⟨3,.phase⟩,by simp,rfl,rfl⟩
  ·exact⟨⟨4,.phase⟩,by simp,rfl,rfl⟩
  ·exact⟨⟨5,.phase⟩,by simp,rfl,rfl⟩
  ·exact⟨⟨6,.phase⟩,by simp,rfl,rfl⟩
  ·exact⟨⟨7,.phase⟩,by simp,rfl,rfl⟩
  ·exact⟨⟨8,.phase⟩,by simp,rfl,rfl⟩
  ·exact⟨⟨9,.phase⟩,by simp,rfl,rfl⟩
  ·exact⟨⟨10,.chain⟩,by simp,rfl,rfl⟩
  ·exact⟨⟨11,.data⟩,by simp,rfl,rfl⟩
 ·intro i o hi uJ ho a x hpre seen K hK;clear HQ;rcases (by omega:i=0\/i=1\/i=2\/i=3\/i=4\/i=5\/i=6\/i=7\/i=8\/i=9\/i=10\/i=11\/i=12\/i=14) with rfl|rfl|rfl|rfl|rfl|rfl|rfl|rfl|rfl|rfl|rfl|rfl|rfl|rfl
  ·cases ho;obtain⟨hb,hbx⟩:=hpre rfl;have e3:a.eval (ah 3)=Z (O ⟨b3,0,Y⟩):=seen.kp 3 _ UZ rfl;exact aK rfl rfl (cK a.eval _ 30 (ah 3) rfl (by rw [e3]; exact Aj (HX.out.on hb))) (hK _ x rfl (ay _ _))
  ·cases ho;obtain⟨hb,hbx⟩:=hpre rfl;have e3:a.eval (ah 3)=Z (O ⟨b3,0,Y⟩):=seen.kp 3 _ UZ rfl;exact aK rfl rfl (cK a.eval _ 30 (ah 3) rfl (by rw [e3]; exact Aj (HX.out.on hb))) (hK _ x rfl (ay _ _))
  ·cases ho;obtain⟨hb,hbx⟩:=hpre rfl;have e5:a.eval (ah 5)=Z (O ⟨b5,0,Y⟩):=seen.kp 5 _ Sn rfl;exact aK rfl rfl (Rg.eD a.eval _ 43 (ah 5) 1 rfl (by rw [e5]; simp [go_sem])) (hK _ x rfl (ay _ _))
  ·cases ho;obtain⟨hb,hbx⟩:=hpre rfl;have e10:a.eval (ah 10)=Z (O ⟨b5,1,Y⟩):=seen.at_ ⟨2,.data⟩ (by simp) rfl (by decide) (aj (by decide));have y1:=(HM.out.on hb).cell 1;have y2:=(HM.out.on hb).cell 2;simp only [ak,aC,aD] at y1 y2;exact aK rfl rfl (cK a.eval _ 23 (ah 10) rfl (by rw [e10]; simp [go_sem,y1,y2])) (hK _ x rfl (ay _ _))
  ·cases ho;obtain⟨hb,hbx⟩:=hpre rfl;have e9:a.eval (ah 9)=mg b.me (s1,s2,s3) (s4,s5,s6) (s7,s8,s9) (s10,s11,s12) (s13,s14,s15):=seen.at_ ⟨1,.data⟩ (by simp) rfl (by decide) (aj (by decide));have e11:a.eval (ah 11)=aV #[U X t1,U X t2]:=seen.at_ ⟨3,.data⟩ (by simp) rfl (by decide) (aj (by decide));exact Rg.fZ rfl rfl (Rw.kE a.eval _ (ah 9) (ah 11) 30 23 46 rfl e9 e11 rfl _ (fD Tryz.func46 rfl rfl _ _)) (Ie b s1 s2 s3 s4 s5 s6 s7 s8 s9 s10 s11 s12 s13 s14 s15 t1 t2 x (BN.out.on hb).br FP.out) fun e w1 h=>by
    obtain⟨rfl,h5⟩:=h;exact⟨_,rfl,hK _ _ rfl h5⟩
  ·cases ho;obtain⟨hb,hbx⟩:=hpre rfl;have e5:a.eval (ah 5)=Z (O ⟨b5,0,Y⟩):=seen.kp 5 _ Sn rfl;exact aK rfl rfl (Rg.eD a.eval _ 43 (ah 5) 1 rfl (by rw [e5]; simp [go_sem])) (hK _ x rfl (ay _ _))
  ·cases ho;obtain⟨hb,hbx⟩:=hpre rfl;have e13:a.eval (ah 13)=Z (O ⟨b5,1,Y⟩):=seen.at_ ⟨5,.data⟩ (by simp) rfl (by decide) (aj (by decide));have y1:=(HM.out.on hb).cell 1;have y2:=(HM.out.on hb).cell 2;simp only [ak,aC,aD] at y1 y2;exact aK rfl rfl (cK a.eval _ 23 (ah 13) rfl (by rw [e13]; simp [go_sem,y1,y2])) (hK _ x rfl (ay _ _))
  ·cases ho;obtain⟨hb,hbx⟩:=hpre rfl;have e5:a.eval (ah 5)=Z (O ⟨b5,0,Y⟩):=seen.kp 5 _ Sn rfl;exact aK rfl rfl (Rg.eD a.eval _ 43 (ah 5) 2 rfl (by rw [e5]; simp [go_sem])) (hK _ x rfl (ay _ _))
  ·cases ho;obtain⟨hb,hbx⟩:=hpre rfl;have e15:a.eval (ah 15)=Z (O ⟨b5,3,Y⟩):=seen.at_ ⟨7,.data⟩ (by simp) rfl (by decide) (aj (by decide));have y3:=(HM.out.on hb).cell 3;have y4:=(HM.out.on hb).cell 4;simp only [ak,aC,aD] at y3 y4;exact aK rfl rfl (cK a.eval _ 23 (ah 15) rfl (by rw [e15]; simp [go_sem,y3,y4])) (hK _ x rfl (ay _ _))
  ·cases ho;obtain⟨hb,hbx⟩:=hpre rfl;have e1:a.eval (ah 1)=U X f:=seen.kp 1 _ XU rfl;exact aK rfl rfl (Rg.iZ a.eval _ (ah 1) rfl x) (hK _ x e1 (ay _ _))
  ·cases ho;obtain⟨hb,hbx⟩:=hpre rfl;have e8:a.eval (ah 8)=mg b.me (s1,s2,s3) (s4,s5,s6) (s7,s8,s9) (s10,s11,s12) (s13,s14,s15):=seen.at_ ⟨0,.data⟩ (by simp) rfl (by decide) (aj (by decide));have e12:a.eval (ah 12)=U X (gT b (t1,t2)):=seen.at_ ⟨4,.data⟩ (by simp) rfl (by decide) (aj (by decide));have e14:a.eval (ah 14)=aV #[U X t1,U X t2]:=seen.at_ ⟨6,.data⟩ (by simp) rfl (by decide) (aj (by decide));have e16:a.eval (ah 16)=aV #[U X x1,U X x2]:=seen.at_ ⟨8,.data⟩ (by simp) rfl (by decide) (aj (by decide));have e17:a.eval (ah 17)=U X f:=seen.at_ ⟨9,.data⟩ (by simp) rfl (by decide) (aj (by decide));exact Rg.fZ rfl rfl (JZ a.eval _ (ah 8) (ah 12) (ah 14) (ah 16) (ah 17) 30 3 23 23 3 48 rfl e8 e12 e14 e16 e17 rfl _ (fD Tryz.func48 rfl rfl _ _)) (zJ b s1 s2 s3 s4 s5 s6 s7 s8 s9 s10 s11 s12 s13 s14 s15 (gT b (t1,t2)) t1 t2 x1 x2 f x (BN.out.on hb) FB.out FP.out RE.out PE.out) fun e w1 h=>by
    obtain⟨⟨a1,a2,a3,a4,a5,a6,lx,rfl,h2,h3,h4⟩,h5⟩:=h;exact⟨_,rfl,hK _ _ ⟨a1,a2,a3,a4,a5,a6,lx,rfl,h2,fun q=>h3 (XT.out q |>.on hb),h4.le hb.size⟩ h5⟩
  ·cases ho;obtain⟨hb,hbx⟩:=hpre rfl;have XW:=seen.at_ ⟨10,.data⟩ (by simp) rfl (by decide) (aj (by decide));obtain⟨a1,a2,a3,a4,a5,a6,_,h1,h2,h3,_⟩:=XW;exact aK rfl rfl (jB a.eval _ (ah 18) 0 rfl (c:=#[mg (gG b (gT b (t1,t2)) (t1,t2) (x1,x2) f).1.me a1 a2 a3 a4 a5,dQ a6]) h1 rfl x) (hK _ x ⟨a1,a2,a3,a4,a5,rfl,h2,h3⟩ (ay _ _))
  ·cases ho;have XW:=seen.at_ ⟨10,.data⟩ (by simp) rfl (by decide) (aj (by decide));obtain⟨a1,a2,a3,a4,a5,a6,lx,h1,_,_,h4⟩:=XW;exact aK rfl rfl (jB a.eval _ (ah 18) 1 rfl (c:=#[mg (gG b (gT b (t1,t2)) (t1,t2) (x1,x2) f).1.me a1 a2 a3 a4 a5,dQ a6]) h1 rfl x) (hK _ x ⟨a6,lx,rfl,h4⟩ (ay _ _))
  ·cases ho;have E20:=seen.at_ ⟨12,.data⟩ (by simp) rfl (by decide) (aj (by decide));exact aK rfl rfl (Rg.kY a.eval _ (ah 20) rfl x) (hK _ x E20 (ay _ _))
 ·intro o ho a x v hb hbx hC AZ hbase K hK;clear HQ;cases ho;have eB:a.eval (ah 6)=Z (O ⟨bb,0,Y⟩):=hbase 6 _ rfl nb6;obtain⟨⟨m1,m2,m3⟩,⟨m4,m5,m6⟩,⟨m7,m8,m9⟩,⟨m10,m11,m12⟩,⟨m13,m14,m15⟩,hv1,hv2,hv3⟩:=AZ;subst hv1;have iO:=au x bb (U X (gG b (gT b (t1,t2)) (t1,t2) (x1,x2) f).1.me) (J m1 m2 m3) (J m4 m5 m6) (J m7 m8 m9) (J m10 m11 m12) (J m13 m14 m15);refine Rg.gI 30 (ah 6) (ah 19) rfl rfl rfl rfl eB hC (w':=iY x bb (U X (gG b (gT b (t1,t2)) (t1,t2) (x1,x2) f).1.me) (J m1 m2 m3) (J m4 m5 m6) (J m7 m8 m9) (J m10 m11 m12) (J m13 m14 m15)) (p8 hbx _ _ _ _ _ _ _ _ _ _ _ _ _ _ _ _) (hK _ iO (fun B w hB h=>dI h hB _ _ _ _ _ _) (dX hbx _ _ _ _ _ _) ?_);exact fun j u hj Zq hl h=>by
   rcases (by omega:j=0\/j=1\/j=2\/j=3\/j=4\/j=5\/j=6\/j=7\/j=8\/j=9\/j=10\/j=11\/j=12\/j=14) with rfl|rfl|rfl|rfl|rfl|rfl|rfl|rfl|rfl|rfl|rfl|rfl|rfl|rfl
   ·have h2:u=mg b.me (s1,s2,s3) (s4,s5,s6) (s7,s8,s9) (s10,s11,s12) (s13,s14,s15):=h; exact h2
   ·have h2:u=mg b.me (s1,s2,s3) (s4,s5,s6) (s7,s8,s9) (s10,s11,s12) (s13,s14,s15):=h; exact h2
   ·have h2:u=Z (O ⟨b5,1,Y⟩):=h; exact h2
   ·have h2:u=aV #[U X t1,U X t2]:=h; exact h2
   ·have h2:u=U X (gT b (t1,t2)):=h; exact h2
   ·have h2:u=Z (O ⟨b5,1,Y⟩):=h; exact h2
   ·have h2:u=aV #[U X t1,U X t2]:=h; exact h2
   ·have h2:u=Z (O ⟨b5,3,Y⟩):=h; exact h2
   ·have h2:u=aV #[U X x1,U X x2]:=h; exact h2
   ·have h2:u=U X f:=h; exact h2
   ·obtain⟨a1,a2,a3,a4,a5,a6,lx,h1,h2,h3,h4⟩:=h; exact⟨a1,a2,a3,a4,a5,a6,lx,h1,h2.keep (s1:=(Y,0,0)) (s2:=(Y,0,0)) (s3:=(Y,0,0)) (s4:=(Y,0,0)) (s5:=(Y,0,0)) (me:=0) hbx iO,fun q=>(h3 q).nY iO hbx (by decide) (by decide) (by decide) (by decide) (by decide) (by decide),h4.but iO hbx (by decide) (by decide)⟩
   ·obtain⟨a1,a2,a3,a4,a5,h1,h2,h3⟩:=h; exact⟨a1,a2,a3,a4,a5,h1,h2.keep (s1:=(Y,0,0)) (s2:=(Y,0,0)) (s3:=(Y,0,0)) (s4:=(Y,0,0)) (s5:=(Y,0,0)) (me:=0) hbx iO,fun q=>(h3 q).nY iO hbx (by decide) (by decide) (by decide) (by decide) (by decide) (by decide)⟩
   ·obtain⟨s,lx,h1,h2⟩:=h; exact⟨s,lx,h1,h2.but iO hbx (by decide) (by decide)⟩
   ·obtain⟨s,lx,h1,h2⟩:=h; exact⟨s,lx,h1,h2.but iO hbx (by decide) (by decide)⟩
 ·intro a x v df sz kp gC hbx AZ U0 ⟨vs,hv⟩;obtain⟨⟨m1,m2,m3⟩,⟨m4,m5,m6⟩,⟨m7,m8,m9⟩,⟨m10,m11,m12⟩,⟨m13,m14,m15⟩,hv1,hv2,hv3⟩:=AZ;subst hv1;obtain⟨⟨o1,o2,o3⟩,lx,ho1,ho2⟩:=(hv 14 (by decide) (by decide)).2 (by decide);have g7:a.tmps[7]?=O (dQ (o1,o2,o3)):=by
   rw [<- ho1];exact (hv 14 (by decide) (by decide)).1
  have uI:∀ j,(j<7\/21<=j)->a.tmps[j]?=(u0::U X f::u2::Z (O ⟨b3,0,Y⟩)::u4::Z (O ⟨b5,0,Y⟩)::Z (O ⟨bb,0,Y⟩)::u7::u8::u9::u10::u11::u12::u13::u14::u15::u16::u17::u18::u19::u20::[])[j]?:=fun j hj=>(kp j (fun i hi h=>by have:=(by decide:∀ i,i<15->7<=[8,9,10,11,12,13,14,15,16,17,18,19,20,19,7].getD i 0/\[8,9,10,11,12,13,14,15,16,17,18,19,20,19,7].getD i 0<21) i hi; omega)).trans ak;obtain⟨mid,hmid,rfl⟩:=Rg.iA 7 14 df (by rw [sz]; rfl) (by simp) uI
  match mid,hmid with
  | [v7,v8,v9,v10,v11,v12,v13,v14,v15,v16,v17,v18,v19,v20],_ =>
   obtain rfl:v7=dQ (o1,o2,o3):=aQ g7;exact HQ.out x _ _ _ _ _ _ _ _ _ _ _ _ _ m1 m2 m3 m4 m5 m6 m7 m8 m9 m10 m11 m12 m13 m14 m15 o1 o2 o3 lx hbx hv2 hv3 ho2 U0
theorem zK (b:Br) (s1:Option aF) (s2 s3:Nat) (s4:Option aF) (s5 s6:Nat) (s7:Option aF) (s8 s9:Nat) (s10:Option aF) (s11 s12:Nat) (s13:Option aF) (s14 s15:Nat) (f kd t1 t2 x1 x2:Int) (po:Option aF) (pn pc:Nat) (p:List C5) (w:aA) (h:mR w b (s1,s2,s3) (s4,s5,s6) (s7,s8,s9) (s10,s11,s12) (s13,s14,s15)) (hf:xR b) (hfp:mq b) (hok:gP b) (pe:∀ e∈b.ent,dN e.p) (hp:fF w (J po pn pc) p) (pp:dN p) :
  Calls aB 11 #[aV #[U X b.me,J s1 s2 s3,J s4 s5 s6,J s7 s8 s9,J s10 s11 s12,J s13 s14 s15],U X f,aV #[U X kd,U X t1,U X t2,U X x1,U X x2,J po pn pc,J Y 0 0]] w (VL w (jo w b (s1,s2,s3) (s4,s5,s6) (s7,s8,s9) (s10,s11,s12) (s13,s14,s15)) (iG b f (t1,t2) (x1,x2) p)):=by
 rw [Du hok];obtain⟨h0,h1,h2,h3⟩:=ji w #[U X b.me,J s1 s2 s3,J s4 s5 s6,J s7 s8 s9,J s10 s11 s12,J s13 s14 s15] #[U X kd,U X t1,U X t2,U X x1,U X x2,J po pn pc,J Y 0 0] #[U X 0,J Y 0 0,J Y 0 0,J Y 0 0,J Y 0 0,J Y 0 0] 30 43 30;obtain⟨P,hP⟩:∃ P:Prop,P=jo w b (s1,s2,s3) (s4,s5,s6) (s7,s8,s9) (s10,s11,s12) (s13,s14,s15):=⟨_,rfl⟩;have HP:=L hP;have GB:=L h0;have RG:=L (fun (Q:Exit->Act->aA->Prop) (W:aA)=>os1 Q W w.heap.size (w.heap.size+1) (w.heap.size+1+1) P b s1 s2 s3 s4 s5 s6 s7 s8 s9 s10 s11 s12 s13 s14 s15 f kd t1 t2 x1 x2 po pn pc p);have A3:=L h3;have A1:=L h1;have A2:=L h2;have A4:=L (h.on h0);have A5:=L (show P->_ from fun q=>(cast hP q:jo w b (s1,s2,s3) (s4,s5,s6) (s7,s8,s9) (s10,s11,s12) (s13,s14,s15)).on h0);have A6:=L hf;have A7:=L hfp;have A8:=L (show gK b.ent from hok.ent);have A9:=L pe;have A10:=L (hp.on h0);have A11:=L pp;clear h h0 h1 h2 h3 hf hfp hok pe hP hp pp;go_enter Tryz.func11,Tryz.ntmps11;go_upto_region 1 with fail;refine RG.out _ _ _ _ _ _ _ _ _ _ _ _ _ _ _ _ _ _ _ _ _ _ A3.out A1.out A2.out A4.out A5.out A6.out A7.out A8.out A9.out A10.out A11.out ?_;intro x v_8 v_9 aaW aaX aaY aaZ aa0 aa1 aa2 aa3 aa4 aa5 aa6 aea aeb aec m1 m2 m3 m4 m5 m6 m7 m8 m9 m10 m11 m12 m13 m14 m15 o1 o2 o3 lx hbx hbn hbc hou hst;have BL:=L (GB.out.trans (hst.2 w.heap.size (by omega)));have HB:=L hbn;have HC:=L hbc;have HO:=L (hou.le GB.out.size);obtain⟨v0,v1,v2,v3,v4,v5⟩:=hbx.ig;clear hbx hbn hbc hou hst RG A1 A2 A3 A4 A5 A6 A7 A8 A9 A10 A11;go_wp2_with fail;refine bW (v:=.tuple #[aV #[U X (fU b (gT b (t1,t2)) (⟨(t1,t2),(x1,x2),p,f,aG⟩:En)).1.me,J m1 m2 m3,J m4 m5 m6,J m7 m8 m9,J m10 m11 m12,J m13 m14 m15],J o1 o2 o3]) (by simp [results,Tryz.results11,go_sem,v0,v1,v2,v3,v4,v5]) rfl ?_;exact⟨⟨(m1,m2,m3),(m4,m5,m6),(m7,m8,m9),(m10,m11,m12),(m13,m14,m15),(o1,o2,o3),lx,rfl,HB.out,fun q=>HC.out (cast HP.out.symm q),HO.out⟩,BL.out⟩
theorem Dz (b:Br) (s1:Option aF) (s2 s3:Nat) (s4:Option aF) (s5 s6:Nat) (s7:Option aF) (s8 s9:Nat) (s10:Option aF) (s11 s12:Nat) (s13:Option aF) (s14 s15:Nat) (f kd t1 t2 x1 x2:Int) (po:Option aF) (pn pc:Nat) (w:aA) (h:mR w b (s1,s2,s3) (s4,s5,s6) (s7,s8,s9) (s10,s11,s12) (s13,s14,s15)) (hf:xR b) (hfp:mq b) (hok:gP b) (pe:∀ e∈b.ent,dN e.p) :
  Calls aB 20 #[aV #[U X b.me,J s1 s2 s3,J s4 s5 s6,J s7 s8 s9,J s10 s11 s12,J s13 s14 s15],U X f,aV #[U X kd,U X t1,U X t2,U X x1,U X x2,J po pn pc,J Y 0 0]] w (VL w (jo w b (s1,s2,s3) (s4,s5,s6) (s7,s8,s9) (s10,s11,s12) (s13,s14,s15)) (gW b (t1,t2) (x1,x2) f)):=by
 rw [wK hok];obtain⟨h0,h1,h2,h3⟩:=ji w #[U X b.me,J s1 s2 s3,J s4 s5 s6,J s7 s8 s9,J s10 s11 s12,J s13 s14 s15] #[U X kd,U X t1,U X t2,U X x1,U X x2,J po pn pc,J Y 0 0] #[U X 0,J Y 0 0,J Y 0 0,J Y 0 0,J Y 0 0,J Y 0 0] 30 43 30;obtain⟨P,hP⟩:∃ P:Prop,P=jo w b (s1,s2,s3) (s4,s5,s6) (s7,s8,s9) (s10,s11,s12) (s13,s14,s15):=⟨_,rfl⟩;have HP:=L hP;have GB:=L h0;have RG:=L (fun (Q:Exit->Act->aA->Prop) (W:aA)=>ou1 Q W w.heap.size (w.heap.size+1) (w.heap.size+1+1) P b s1 s2 s3 s4 s5 s6 s7 s8 s9 s10 s11 s12 s13 s14 s15 f kd t1 t2 x1 x2 po pn pc);have A3:=L h3;have A1:=L h1;have A2:=L h2;have A4:=L (h.on h0);have A5:=L (show P->_ from fun q=>(cast hP q:jo w b (s1,s2,s3) (s4,s5,s6) (s7,s8,s9) (s10,s11,s12) (s13,s14,s15)).on h0);have A6:=L hf;have A7:=L hfp;have A8:=L (show gK b.ent from hok.ent);have A9:=L pe;clear h h0 h1 h2 h3 hf hfp hok pe hP;go_enter Tryz.func20,Tryz.ntmps20;go_upto_region 1 with fail;refine RG.out _ _ _ _ _ _ _ _ _ _ _ _ _ _ _ _ _ _ _ A3.out A1.out A2.out A4.out A5.out A6.out A7.out A8.out A9.out ?_;intro x v_8 v_9 aaW aaX aaY aaZ aa0 aa1 aa2 aa3 aa4 aa5 aa6 m1 m2 m3 m4 m5 m6 m7 m8 m9 m10 m11 m12 m13 m14 m15 o1 o2 o3 lx hbx hbn hbc hou hst;have BL:=L (GB.out.trans (hst.2 w.heap.size (by omega)));have HB:=L hbn;have HC:=L hbc;have HO:=L (hou.le GB.out.size);obtain⟨v0,v1,v2,v3,v4,v5⟩:=hbx.ig;clear hbx hbn hbc hou hst RG A1 A2 A3 A4 A5 A6 A7 A8 A9;go_wp2_with fail;refine bW (v:=.tuple #[aV #[U X (gG b (gT b (t1,t2)) (t1,t2) (x1,x2) f).1.me,J m1 m2 m3,J m4 m5 m6,J m7 m8 m9,J m10 m11 m12,J m13 m14 m15],J o1 o2 o3]) (by simp [results,Tryz.results20,go_sem,v0,v1,v2,v3,v4,v5]) rfl ?_;exact⟨⟨(m1,m2,m3),(m4,m5,m6),(m7,m8,m9),(m10,m11,m12),(m13,m14,m15),(o1,o2,o3),lx,rfl,HB.out,fun q=>HC.out (cast HP.out.symm q),HO.out⟩,BL.out⟩
end Rt
end Go.Proofs.YtghlpefopidlaaaGreat
