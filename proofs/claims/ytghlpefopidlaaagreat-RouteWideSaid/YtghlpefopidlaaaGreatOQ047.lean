/-
  What a broker has sa. Conditions as told.
-/
import Derived.Test.YtghlpefopidlaaaGreatOQ046
set_option maxRecDepth 100000
set_option maxHeartbeats 64000000
open _root_.Bool renaming true->aQ
open _root_.Go renaming Addr->aM,World->aZ,Value->bf
open Go.IntKind renaming i64->aF
open Go.Lib renaming hid->O
open Go.Operand renaming tmp->aL
open Go.Proofs.Tryz renaming prog->aC,underlying73->aS
open Go.RowKit.Below renaming refl->aj
open Go.Value renaming slice->L,pointer->ak,int->aD,cells->bH,agg->bI
open _root_.List renaming getElem?_eq_getElem->V,mem_append->Y,mem_singleton->Z,mem_of_getElem?->ah,mem_filter->aA,getElem?_append_right->aB,getElem?_eq_some_iff->aG,getElem?_append_left->aH,length_append->aI,mem_iff_getElem?->aN,getElem?_toArray->aO,filter_append->aP,getElem?_cons_zero->aT,getElem?_cons_succ->aU,filter_eq_nil_iff->aV,length_filter_le->aW,filter_eq_self->aX,map_nil->aY,length_map->bg,mem_map->bD
open _root_.Nat renaming le_refl->U,le_trans->aK,zero_le->aR,mul_le_mul->bC,lt_or_ge->bF,le_succ->bG
open _root_.Option renaming some->au,none->ay
open Option.some renaming inj->J
open _root_.Or renaming inr->aJ,inl->bq
namespace Go.Proofs.YtghlpefopidlaaaGreat
namespace Rt
open Go.RowKit Go.Sort Rw YtghlpefopidlaaaGreat.Nm Pr Bk Av Rl Sb
theorem zP:NF []:=⟨List.Pairwise.nil,by simp,by simp,by simp⟩
theorem Er {a:List Cn} (na:NF a):mZ [] a=aQ:=(p8 zP.rise na.rise zP.five).2 (Gv a na.five)
theorem Es {a b:List Cn} (na:NF a) (nb:NF b):mZ b a=mZ a b:=by
 rw [Bool.eq_iff_iff,p8 nb.rise na.rise nb.five,p8 na.rise nb.rise na.five];exact⟨fun h=>h.symm nb.rise na.rise nb.fD na.fD,fun h=>h.symm na.rise nb.rise na.fD nb.fD⟩
theorem vX {p:List C5} (h:dU p):gY p []=aQ:=by
 obtain⟨a,na,rfl⟩:=h;unfold gY;rw [qJ,aY,Es zP na];exact Er na
theorem Et (t:dO) (m:List En) (k:Nat) {z:En} (hz:z∈m) (hu:z.up=aQ):z∈(gJ t m k).1:=by
 obtain⟨j,hj⟩:=aN.1 hz;obtain⟨z',h1,h2⟩:=vE t m k j z hj;have:z'=z:=by
  rcases h2 with q|q
  ·exact q
  ·rw [q]; unfold tV; rw [<- hu]
 rw [<- this];exact ah h1
theorem qj:dU []:=⟨[],zP,rfl⟩
structure TY (b:Br):Prop where
 ok:fQ b
 tight:gK b
 Pg:∀ a∈b.dG,a.par≠-1/\a.p=[]
structure T9 (b:Br) (w:dO):Prop where
 t:TY b
 pe:∀ e∈b.ent,dU e.p
 wide:∀ a∈b.dG,(⟨a.id,w,[],-1,aQ⟩:En)∈b.ent
 own:∃ o∈b.own,o.id=w
 subs:∀ e∈b.ent,∃ o∈b.own,o.id=e.sub
theorem Ci {b:Br} (h:TY b) {p:List C5} (hp:dU p):Bz b p b.dG.length=b.dG:=by
 unfold Bz;rw [List.take_length];exact aX.2 fun a ha=>by rw [(h.Pg a ha).2]; exact vX hp
theorem qY (b:Br) (x:dO) (p:List C5) (y:Ow):y∈(ownIn b x p).own↔y=⟨x,p⟩\/y∈b.own:=jQ _ _ _ _
theorem TY.subs {b:Br} (h:TY b) {x:dO} {p:List C5} (hr:Wr.gV p=aQ):TY (eF b x p).1:=by
 have Cj:(eF b x p).1.dG=b.dG:=by
  unfold eF
  split
  ·rfl
  ·exact (mI (b0:=ownIn b x p) (o0:=[]) (fun a=>gY p a.p) (fun a=>iY x p a) (fun a=>a.par) (fun _=>True) (fun _ _=>trivial) (fun _ _ _=>trivial) b.dG.length (U _)).1.dG
 exact⟨FZ h.ok x p hr,vF h.ok h.tight x p hr,fun a ha=>h.Pg a (by rw [<- Cj]; exact ha)⟩
theorem Eu {b:Br} (h:TY b) (he:b.ent=[]) (ho:b.own=[]) (w:dO) (hr:Wr.gV []=aQ):T9 (eF b w []).1 w/\(eF b w []).2=b.dG.map fun a=>⟨a.par,3,a.id,w,[]⟩:=by
 have hx:Fr b w:=⟨fun e q=>by rw [he] at q; simp at q,fun o q=>by rw [ho] at q; simp at q⟩;have hS:=BI h.ok hx [];have hup:∀ a∈b.dG,wR b [] a=aQ:=fun a ha=>by
  unfold wR dV;rw [he];simpa using (h.Pg a ha).1
 have Cj:=hS.same.dG;have hown:(eF b w []).1.own=(ownIn b w []).own:=hS.same.own;have hall:∀ e∈(eF b w []).1.ent,e.sub=w:=fun e q=>by
  refine Classical.byContradiction fun hne=>?_;have:e∈(eF b w []).1.ent.filter (fun e=>decide (e.sub≠w)):=aA.2 ⟨q,decide_eq_true hne⟩;rw [hS.old,he] at this;simp at this
 refine⟨⟨h.subs hr,fun e q=>?_,fun a ha=>?_,?_,fun e q=>?_⟩,?_⟩
 ·obtain⟨_,a,_,_,_,rfl⟩:=hS.new e q (hall e q);exact qj
 ·have ha2:a∈b.dG:=by rw [<- show (eF b w []).1.dG=b.dG from Cj]; exact ha
  obtain⟨i,hi⟩:=aN.1 ha2;have:=hS.all i a (aG.1 hi).1 hi (by rw [(h.Pg a ha2).2]; exact vX qj);unfold newE at this;rw [hup a ha2] at this;exact this
 ·rw [hown];exact⟨⟨w,[]⟩,(qY _ _ _ _).2 (bq rfl),rfl⟩
 ·rw [hown,hall e q];exact⟨⟨w,[]⟩,(qY _ _ _ _).2 (bq rfl),rfl⟩
 ·rw [hS.out];unfold TV;rw [Ci h qj,aX.2 hup]
theorem Je {b:Br} {w:dO} (h:T9 b w) {x:dO} {p:List C5} (hp:dU p) (hr:Wr.gV p=aQ):T9 (eF b x p).1 w/\(eF b x p).2=[]:=by
 by_cases hk:(b.own[gF (b.own.map Ow.id) x]?).map Ow.id=au x
 ·rw [Ed hk];exact⟨h,rfl⟩
 ·have hno:=sD h.t.ok.own hk;have hx:Fr b x:=⟨fun e q r=>by
   obtain⟨o,h1,h2⟩:=h.subs e q;exact hno o h1 (h2.trans r),hno⟩
  have hS:=BI h.t.ok hx p;have hown:(eF b x p).1.own=(ownIn b x p).own:=hS.same.own;have Cj:(eF b x p).1.dG=b.dG:=hS.same.dG;have hold:∀ e∈b.ent,e∈(eF b x p).1.ent:=fun e q=>by
   rw [<- hS.old] at q;exact (aA.1 q).1
  have hnew:∀ e∈(eF b x p).1.ent,e∈b.ent\/(e.sub=x/\e.p=p):=fun e q=>by
   by_cases hs:e.sub=x
   ·obtain⟨_,a,_,_,_,rfl⟩:=hS.new e q hs;exact aJ ⟨rfl,rfl⟩
   ·left;rw [<- hS.old];exact aA.2 ⟨q,decide_eq_true hs⟩
  refine⟨⟨h.t.subs hr,fun e q=>?_,fun a ha=>hold _ (h.wide a (by rw [<- Cj]; exact ha)),?_,fun e q=>?_⟩,?_⟩
  ·rcases hnew e q with q|⟨_,q⟩
   ·exact h.pe e q
   ·rw [q]; exact hp
  ·obtain⟨o,h1,h2⟩:=h.own;rw [hown];exact⟨o,(qY _ _ _ _).2 (aJ h1),h2⟩
  ·rw [hown];rcases hnew e q with q|⟨q,_⟩
   ·obtain⟨o,h1,h2⟩:=h.subs e q;exact⟨o,(qY _ _ _ _).2 (aJ h1),h2⟩
   ·exact⟨⟨x,p⟩,(qY _ _ _ _).2 (bq rfl),q.symm⟩
  ·rw [hS.out];unfold TV;rw [Ci h.t hp,aV.2 fun a ha=>?_,aY];unfold wR;rw [(kE b.ent a.id p).2 ⟨_,h.wide a ha,rfl,rfl,Ov p⟩];simp
structure WL (m:List En) (w:dO) (l:List Ou):Prop where
 Y0:∀ o∈l,o.kind=3\/o.kind=4
 up:∀ o∈l,o.kind=3->∃ e∈m,e.tree=o.tree/\e.sub=o.id/\e.up=aQ/\e.sub≠w
 end_:∀ (i:Nat) (o:Ou),l[i]?=au o->o.kind=4->o.id=w/\∀ o',l[i+1]?=au o'->dJ o.tree o'.tree=aQ
structure WU (b:Br) (w:dO) (k:Nat) (s:Br×List Ou):Prop where
 pend:∀ i a,k<=i->b.dG[i]?=au a->(⟨a.id,w,[],-1,aQ⟩:En)∈s.1.ent
 wl:WL s.1.ent w s.2
 below:∀ o∈s.2,∃ i a,i<k/\b.dG[i]?=au a/\o.tree=a.id
 ends:(s.2.filter fun o=>decide (o.kind=4)).length=k
theorem Ph {b:Br} {w:dO} (h:T9 b w) {k:Nat} {s:Br×List Ou} (hs:fQ s.1) (hsa:s.1.dG=b.dG) (hU:WU b w k s) {a:Ad} (ha:b.dG[k]?=au a):WU b w (k+1) (kJ w s a.id):=by
 have hin:=hU.pend k a (U _) ha;rcases Ec hs.ent a.id w (-1) with⟨hn,_⟩|⟨j,e,hj,hke,htk⟩
 ·exact absurd rfl (hn _ hin)
 ·obtain⟨i2,hi2⟩:=aN.1 hin;have:=qQ hs.ent hj hi2 hke;subst this;obtain rfl:=J (hj.symm.trans hi2);have VP:=htk rfl;rw [if_neg (by simp)] at VP;have hcm:∀ z,z∈cutAt s.1.ent j↔z∈s.1.ent/\dF z≠(a.id,w):=by
   intro z;rw [Eb hs.ent hj,aA,decide_eq_true_eq]
  have hup:=yw a.id (cutAt s.1.ent j) _ (U _);have VQ:=fun z hz hu=>Et a.id (cutAt s.1.ent j) (cutAt s.1.ent j).length (z:=z) hz hu;have hd:jF s.1 a.id w (-1)=({ s.1 with ent:=(gJ a.id (cutAt s.1.ent j) (cutAt s.1.ent j).length).1 },(gJ a.id (cutAt s.1.ent j) (cutAt s.1.ent j).length).2.map (lJ a.par)++[⟨a.par,4,a.id,w,[]⟩]):=by
   have hfi:s.1.dG[(fC (s.1.dG.map Ad.id) a.id).toNat]?=au a:=yA hs (by rw [hsa]; exact ha);unfold jF;rw [VP];simp only;rw [hfi]
   rfl
  unfold kJ;rw [hd];generalize gJ a.id (cutAt s.1.ent j) (cutAt s.1.ent j).length=r at *;have hkeep:∀ z∈s.1.ent,z.up=aQ->dF z≠(a.id,w)->z∈r.1:=fun z h1 h2 h3=>VQ z ((hcm z).2 ⟨h1,h3⟩) h2;have hseg:∀ o∈r.2.map (lJ a.par),o.kind=3/\o.tree=a.id/\∃ e∈r.1,e.tree=o.tree/\e.sub=o.id/\e.up=aQ/\e.sub≠w:=by
   intro o ho;obtain⟨y,hy,rfl⟩:=bD.1 ho;obtain⟨q1,q2,z0,q3,rfl,q5,q6,_⟩:=hup y hy;refine⟨rfl,q5,_,q1,rfl,rfl,q2,fun q=>((hcm z0).1 q3).2 ?_⟩;unfold dF;rw [q5,show z0.sub=w from q]
  have hlen:(r.2.map (lJ a.par)).length=r.2.length:=bg _;have SE:∀ o',(s.2++(r.2.map (lJ a.par)++[⟨a.par,4,a.id,w,[]⟩]))[s.2.length]?=au o'->o'.tree=a.id:=by
   intro o' ho;rw [aB (U _),Nat.sub_self] at ho;rcases Y.1 (ah ho) with q|q
   ·exact (hseg _ q).2.1
   ·rw [Z.1 q]
  refine⟨fun i c hi hc=>?_,⟨fun o ho=>?_,fun o ho hk=>?_,fun i o ho hk=>?_⟩,fun o ho=>?_,?_⟩
  ·refine hkeep _ (hU.pend i c (by omega) hc) rfl fun q=>?_;have:=tY h.t.ok hc ha (congrArg Prod.fst q);omega
  ·rcases Y.1 ho with q|q
   ·exact hU.wl.Y0 o q
   ·rcases Y.1 q with q|q
    ·exact bq (hseg _ q).1
    ·rw [Z.1 q]; exact aJ rfl
  ·rcases Y.1 ho with q|q
   ·obtain⟨z,q1,q2,q3,q4,q5⟩:=hU.wl.up o q hk;exact⟨z,hkeep z q1 q4 (fun r=>q5 (congrArg Prod.snd r)),q2,q3,q4,q5⟩
   ·rcases Y.1 q with q|q
    ·exact (hseg _ q).2.2
    ·rw [Z.1 q] at hk; exact absurd (show (4:Int)=3 from hk) (by decide)
  ·by_cases hi:i<s.2.length
   ·rw [aH hi] at ho;obtain⟨q1,q2⟩:=hU.wl.end_ i o ho hk;refine⟨q1,fun o' ho'=>?_⟩;by_cases hi2:i+1<s.2.length
    ·rw [aH hi2] at ho';exact q2 o' ho'
    ·have he:i+1=s.2.length:=by omega
     rw [he] at ho';rw [SE o' ho'];obtain⟨i3,c,h1,h2,h3⟩:=hU.below o (ah ho);rw [h3];exact iN h.t.ok.dG h1 h2 ha
   ·rw [aB (by omega)] at ho;by_cases hi2:i-s.2.length<r.2.length
    ·rw [aH (by rw [hlen]; exact hi2)] at ho;rw [(hseg o (ah ho)).1] at hk;exact absurd (show (3:Int)=4 from hk) (by decide)
    ·rw [aB (by rw [hlen]; omega)] at ho;have ho2:=Z.1 (ah ho);refine⟨by rw [ho2],fun o' ho'=>?_⟩;have:=(aG.1 ho').1;rw [aI,aI,hlen] at this;simp at this;omega
  ·rcases Y.1 ho with q|q
   ·obtain⟨i,c,h1,h2⟩:=hU.below o q;exact⟨i,c,by omega,h2⟩
   ·refine⟨k,a,Nat.lt_succ_self _,ha,?_⟩;rcases Y.1 q with q|q
    ·exact (hseg _ q).2.1
    ·rw [Z.1 q]
  ·show ((s.2++(r.2.map (lJ a.par)++[(⟨a.par,4,a.id,w,[]⟩:Ou)])).filter fun o:Ou=>decide (o.kind=4)).length=k+1;have hnil:(r.2.map (lJ a.par)).filter (fun o:Ou=>decide (o.kind=4))=[]:=aV.2 fun o ho=>by rw [(hseg o ho).1]; decide
   rw [aP,aP,hnil,aI,hU.ends]
   rfl
structure VR (b:Br) (w:dO) (s:Br×List Ou):Prop where
 ok:fQ s.1
 tight:gK s.1
 wl:WL s.1.ent w s.2
 ends:(s.2.filter fun o=>decide (o.kind=4)).length=b.dG.length
theorem Jf {b:Br} {w:dO} (h:T9 b w):VR b w (fB b w):=by
 have hne:¬ (kX b w).length=b.own.length:=fun q=>by
  obtain⟨o,h1,h2⟩:=h.own;have:=(List.filter_sublist (p:=fun o:Ow=>decide (o.id≠w)) (l:=b.own)).eq_of_length q;rw [<- this] at h1;exact of_decide_eq_true (aA.1 h1).2 h2
 have hun:fB b w=fA b w b.dG.length:=by unfold fB; rw [if_neg hne]
 have hf:∀ k,k<=b.dG.length->WU b w k (fA b w k):=by
  intro k
  induction k with
  | zero =>
   intro _;exact⟨fun i a _ ha=>h.wide a (ah ha),⟨fun o q=>by simp [fA] at q,fun o q=>by simp [fA] at q,fun i o q=>by simp [fA] at q⟩,fun o q=>by simp [fA] at q,rfl⟩
  | succ k ih =>
   intro hk;obtain⟨a,ha⟩:∃ a,b.dG[k]?=au a:=⟨_,V hk⟩;rw [iX b w ha];exact Ph h (kZ h.t.ok w k (by omega)) (kK b w k (by omega)).1.dG (ih (by omega)) ha
 have hU:=hf b.dG.length (U _);rw [hun];exact⟨kZ h.t.ok w _ (U _),nI h.t.tight w _ (U _),hU.wl,hU.ends⟩
structure Lens (b:Br) (s:Br×List Ou) (n m:Nat):Prop where
 ent:s.1.ent.length<=b.ent.length+n
 own:s.1.own.length<=b.own.length+1
 out:s.2.length<=m
theorem vY (b:Br) (x:dO) (p:List C5):Lens b (eF b x p) b.dG.length b.dG.length:=by
 unfold eF
 split
 ·exact⟨Nat.le_add_right _ _,bG _,aR _⟩
 ·obtain⟨h1,_,h3⟩:=mI (b0:=ownIn b x p) (o0:=[]) (fun a=>gY p a.p) (fun a=>iY x p a) (fun a=>a.par) (fun _=>True) (fun _ _=>trivial) (fun _ _ _=>trivial) b.dG.length (U _);refine⟨h1.len,?_,by simpa using h3⟩;rw [h1.own];exact Nat.le_of_eq (sj _ _ _)
theorem Ev (b:Br) (x:dO):Lens b (fB b x) 0 (b.dG.length * (b.ent.length+1)):=by
 unfold fB
 split
 ·exact⟨U _,bG _,aR _⟩
 ·obtain⟨h1,h2⟩:=kK b x b.dG.length (U _);refine⟨h1.len,?_,h2⟩;rw [h1.own];exact Nat.le_succ_of_le (aW _ _)
end Rt
namespace Fl
open Go.RowKit Go.Sort Rw YtghlpefopidlaaaGreat.Nm Pr Bk Av
end Fl
namespace Fl
open Go.RowKit Go.Sort Rw YtghlpefopidlaaaGreat.Nm Pr Bk Av Rl Sb
structure VT (b:Br) (f:Int) (p:List C5):Prop where
 few:zh b
 qU:mE b
 ok:fQ b
 ls:b.seen.length<=899
 la:b.dG.length<=899
 lo:b.ent.length+b.own.length<=900
 pe:∀ e∈b.ent,dU e.p
 po:∀ o∈b.own,dU o.p
 pp:dU p
 co:oC b.near f=aQ
 rp:Wr.gV p=aQ
structure Cut (b c:Br) (t:dO) (f:Int):Prop where
 dG:VT c f []
 none_:fH c.dG t=ay
 un:Sj c f t=(c,[])
 anew:Yy c f t []=(c,[])
 len:c.dG.length+1=b.dG.length
 br:jW c.ent t=[]
 seen:t∈c.seen
 mem:∀ e∈b.ent,e.tree≠t->e∈c.ent
end Fl
namespace Bk
open Go.RowKit Go.Sort Rw YtghlpefopidlaaaGreat.Nm Pr
end Bk
namespace Fl
open Go.RowKit Go.Sort Rw YtghlpefopidlaaaGreat.Nm Pr Bk Av Rl Sb
structure Y4 (b:Br):Prop where
 few:zh b
 qU:mE b
 ok:fQ b
 pe:∀ e∈b.ent,dU e.p
end Fl
namespace Rt
open Go.RowKit Go.Sort Rw YtghlpefopidlaaaGreat.Nm Pr Bk Av Rl Sb Fl
structure Kept (b:Br) (c:Br):Prop where
 me:c.me=b.me
 near:c.near=b.near
 dG:c.dG=b.dG
 seen:c.seen=b.seen
theorem sK (b:Br) (x:dO) (p:List C5):Kept b (eF b x p).1:=by
 unfold eF
 split
 ·exact⟨rfl,rfl,rfl,rfl⟩
 ·obtain⟨h1,_,_⟩:=mI (b0:=ownIn b x p) (o0:=[]) (fun a=>gY p a.p) (fun a=>iY x p a) (fun a=>a.par) (fun _=>True) (fun _ _=>trivial) (fun _ _ _=>trivial) b.dG.length (U _);exact⟨h1.me,h1.near,h1.dG,h1.seen⟩
theorem Ck (b:Br) (x:dO):Kept b (fB b x).1:=by
 unfold fB
 split
 ·exact⟨rfl,rfl,rfl,rfl⟩
 ·obtain⟨h1,_⟩:=kK b x b.dG.length (U _);exact⟨h1.me,h1.near,h1.dG,h1.seen⟩
structure Ew (R:dO->List C5->Prop) (s:Br×List Ou):Prop where
 ent:∀ e∈s.1.ent,R e.sub e.p
 out:∀ o∈s.2,R o.id o.p
theorem Mx {b:Br} {R:dO->List C5->Prop} (h:∀ e∈b.ent,R e.sub e.p) (e:En) (he:R e.sub e.p):∀ z∈(iA b e).1.ent,R z.sub z.p:=Bv (fun z=>R z.sub z.p) h fun _=>he
theorem Jg {b:Br} {R:dO->List C5->Prop} (h:∀ e∈b.ent,R e.sub e.p) (t x:dO) (f:Int) (hx:R x []):Ew R (jF b t x f):=by
 obtain⟨h1,h2⟩:=rX t x f (fun e=>R e.sub e.p) (fun _ _ q=>q) h;refine⟨by rw [kW]; exact h1,?_⟩;unfold jF
 split
 ·exact fun o ho=>by simp at ho
 ·split
  ·exact fun o ho=>by simp at ho
  ·intro o ho;rcases Y.1 ho with ho|ho
   ·obtain⟨e,he,rfl⟩:=bD.1 ho;exact h2 e he
   ·rw [Z.1 ho];exact hx
theorem Jh {b:Br} {R:dO->List C5->Prop} (h:∀ e∈b.ent,R e.sub e.p) (x:dO) (p:List C5) (hx:R x p):Ew R (eF b x p):=by
 have key:∀ k,k<=b.dG.length->Ew R (gP b.dG (jE x p) (ownIn b x p,[]) k):=by
  intro k
  induction k with
  | zero=>exact fun _=>⟨h,fun o ho=>by simp [gP] at ho⟩
  | succ k ih =>
   intro hk;obtain⟨a,ha⟩:∃ a,b.dG[k]?=au a:=⟨_,V hk⟩;rw [kY _ _ ha];have hi:=ih (by omega);generalize gP b.dG (jE x p) (ownIn b x p,[]) k=s at *;show Ew R (gD _ _ _ _);unfold gD
   split
   ·exact hi
   ·refine⟨Mx hi.ent _ hx,?_⟩;dsimp only
    split
    ·intro o ho;rcases Y.1 ho with ho|ho
     ·exact hi.out o ho
     ·rw [Z.1 ho];exact hx
    ·exact hi.out
 unfold eF
 split
 ·exact⟨h,fun o ho=>by simp at ho⟩
 ·exact key _ (U _)
theorem Cm {b:Br} {R:dO->List C5->Prop} (h:∀ e∈b.ent,R e.sub e.p) (x:dO) (hx:R x []):Ew R (fB b x):=by
 have key:∀ k,k<=b.dG.length->Ew R (fA b x k):=by
  intro k
  induction k with
  | zero=>exact fun _=>⟨h,fun o ho=>by simp [fA] at ho⟩
  | succ k ih =>
   intro hk;obtain⟨a,ha⟩:∃ a,b.dG[k]?=au a:=⟨_,V hk⟩;rw [iX b x ha];have hi:=ih (by omega);have hd:=Jg hi.ent a.id x (-1) hx;refine⟨hd.ent,fun o ho=>?_⟩;rcases Y.1 (show o∈(fA b x k).2++(jF (fA b x k).1 a.id x (-1)).2 from ho) with ho|ho
   ·exact hi.out o ho
   ·exact hd.out o ho
 unfold fB
 split
 ·exact⟨h,fun o ho=>by simp at ho⟩
 ·exact key _ (U _)
structure After (b:Br) (s:Br×List Ou):Prop where
 nice:Y4 s.1
 tight:gK s.1
 out:s.2.length<=1000000/\∀ o∈s.2,o.p.length<=1000
 me:s.1.me=b.me
theorem Co {b:Br} {s:Br×List Ou} {n m:Nat} (hk:Kept b s.1) (hl:Lens b s n m) (hf:zh b) (hfp:mE b) (he:b.ent.length+n<=900) (ho:b.own.length<=899) (hm:m<=1000000) (hr:Ew (fun _ p=>dU p) s) (hw:∀ o∈s.1.own,o.p.length<=900) (hok:fQ s.1) (ht:gK s.1):After b s :=
 ⟨⟨⟨by rw [hk.near]; exact hf.near,by rw [hk.dG]; exact hf.dG,by rw [hk.seen]; exact hf.seen,aK hl.ent he,aK hl.own (by omega)⟩,⟨by rw [hk.dG]; exact hfp.dG,fun e q=>gM (hr.ent e q),hw⟩,hok,hr.ent⟩,ht,⟨aK hl.out hm,fun o q=>aK (Go.Proofs.YtghlpefopidlaaaGreat.Sb.gM (hr.out o q)) (by decide)⟩,hk.me⟩
theorem o8:dU []:=⟨[],⟨List.Pairwise.nil,by simp,by simp,by simp⟩,rfl⟩
theorem MF {b:Br} {x:dO} {p:List C5}:∀ o∈(eF b x p).1.own,o=⟨x,p⟩\/o∈b.own:=by
 unfold eF
 split
 ·exact fun o ho=>aJ ho
 ·obtain⟨h1,_,_⟩:=mI (b0:=ownIn b x p) (o0:=[]) (fun a=>gY p a.p) (fun a=>iY x p a) (fun a=>a.par) (fun _=>True) (fun _ _=>trivial) (fun _ _ _=>trivial) b.dG.length (U _);rw [h1.own];exact fun o ho=>(jQ _ _ _ _).1 ho
theorem Ey {b:Br} {x:dO}:∀ o∈(fB b x).1.own,o∈b.own:=by
 unfold fB
 split
 ·exact fun o ho=>ho
 ·obtain⟨h1,_⟩:=kK b x b.dG.length (U _);rw [h1.own];exact fun o ho=>(aA.1 ho).1
structure SF (b:Br):Prop where
 rt:zO b
 lo:b.own.length<=899
 le:b.ent.length<=899
 tight:gK b
theorem vZ {b:Br} (h:SF b) (x:dO) {p:List C5} (pp:dU p) (rq:Wr.gV p=aQ):After b (eF b x p) :=
 Co (sK b x p) (vY b x p) h.rt.few h.rt.qU h.rt.lo h.lo (aK h.rt.few.dG (by decide)) (Jh h.rt.pe x p pp) (fun o ho=>by
  rcases MF o ho with rfl|ho
  ·exact gM pp
  ·exact h.rt.qU.own o ho) (FZ h.rt.ok x p rq) (vF h.rt.ok h.tight x p rq)
theorem zQ {b:Br} (h:SF b) (x:dO):After b (fB b x) :=
 Co (Ck b x) (Ev b x) h.rt.few h.rt.qU (by have:=h.le; omega) h.lo (by have h1:=h.rt.few.dG; have h2:=h.rt.few.ent; have h3:b.dG.length * (b.ent.length+1)<=900 * 901:=bC h1 (by omega); omega) (Cm h.rt.pe x o8) (fun o ho=>h.rt.qU.own o (Ey o ho)) (IY h.rt.ok x) (zJ h.tight x)
def Ji (k:Nat):List Ad:=[⟨(20,0),[],1⟩,⟨(21,0),[],2⟩,⟨(22,0),[],1⟩].take k
def lY (k:Nat):Br:=⟨0,[1,2],Ji k,[(20,0),(21,0),(22,0)].take k,[],[]⟩
theorem Jj (k:Nat) (h:k<3):jI (lY k) ⟨(20+(k:Int),0),[],1+(k:Int).tmod 2⟩=(lY (k+1),aQ):=by
 rcases (by omega:k=0\/k=1\/k=2) with rfl|rfl|rfl <;> rfl
theorem zR (k:Nat):zh (lY k):=⟨by simp [lY],by simp [lY,Ji]; omega,by simp [lY]; omega,by simp [lY],by simp [lY]⟩
theorem sM {k:Nat} {a:Ad} (h:a∈Ji k):a.p=[]/\a.par≠-1:=by
 have h2:a∈([⟨(20,0),[],1⟩,⟨(21,0),[],2⟩,⟨(22,0),[],1⟩]:List Ad):=List.mem_of_mem_take h;simp only [List.mem_cons,List.not_mem_nil,or_false] at h2;rcases h2 with rfl|rfl|rfl <;> exact⟨rfl,by decide⟩
theorem wh (k:Nat):mE (lY k):=⟨fun a h=>by rw [(sM h).1]; exact aR _,by simp [lY],by simp [lY]⟩
theorem Ez (k:Nat) (h:k<=3):fQ (lY k):=by
 rcases (by omega:k=0\/k=1\/k=2\/k=3) with rfl|rfl|rfl|rfl <;> exact (qL _).1 rfl
theorem nL (k:Nat) (h:k<=3):(lY k).dG.length=k:=by
 simp [lY,Ji]; omega
structure VU (k q:Nat) (b:Br):Prop where
 wd:T9 b (30,0)
 rt:SF b
 dG:b.dG=Ji k
 me:b.me=0
 near:b.near=[1,2]
 le:b.ent.length<=k+k * q
 lo:b.own.length<=1+q
theorem Cq {b:Br} {s:Br×List Ou} {k:Nat} (ha:After b s) (hk:Kept b s.1) (Cj:b.dG=Ji k) (hk3:k<=3) (h1:s.1.ent.length<=800) (h2:s.1.own.length<=800):SF s.1 :=
 ⟨⟨ha.nice.few,ha.nice.qU,ha.nice.ok,by rw [hk.dG,Cj]; have:=nL k hk3; unfold lY at this; dsimp only at this; omega,fun a h=>by rw [hk.dG,Cj] at h; rw [(sM h).1]; exact o8,ha.nice.pe⟩,by omega,by omega,ha.tight⟩
theorem Jk (k:Nat) (h:k<=3):VU k 0 (eF (lY k) (30,0) []).1/\(eF (lY k) (30,0) []).2.length=k:=by
 have hok:=Ez k h;have ht:gK (lY k):=fun a _ _ e he=>by simp [lY] at he
 have hn:SF (lY k):=⟨⟨zR k,wh k,hok,by rw [nL k h]; simp [lY]; omega,fun a q=>by rw [(sM q).1]; exact o8,by simp [lY]⟩,by simp [lY],by simp [lY],ht⟩;obtain⟨w1,w2⟩:=Eu (b:=lY k) ⟨hok,ht,fun a q=>⟨(sM q).2,(sM q).1⟩⟩ rfl rfl (30,0) rfl;have ha:=vZ hn (30,0) o8 rfl;have hk:=sK (lY k) (30,0) [];have hl:=vY (lY k) (30,0) [];have h1:=hl.ent;have h2:=hl.own;rw [nL k h] at h1;have e1:(lY k).ent.length=0:=rfl;have e2:(lY k).own.length=0:=rfl;refine⟨⟨w1,Cq ha hk rfl h (by omega) (by omega),hk.dG,hk.me,hk.near,by omega,by omega⟩,?_⟩;rw [w2,bg];exact nL k h
theorem MG {k q:Nat} {b:Br} (h:VU k q b) (hk3:k<=3) (hq:q<6) (x:dO) {p:List C5} (pp:dU p) (rq:Wr.gV p=aQ):VU k (q+1) (eF b x p).1/\(eF b x p).2=[]:=by
 obtain⟨w1,w2⟩:=Je h.wd (x:=x) pp rq;have ha:=vZ h.rt x pp rq;have hk:=sK b x p;have hl:=vY b x p;have h1:=hl.ent;have h2:=hl.own;have h3:=h.le;have h4:=h.lo;have h5:b.dG.length=k:=by rw [h.dG]; exact nL k hk3
 have h6:k * (q+1)=k * q+k:=Nat.mul_succ k q;have h7:k * q<=3 * 6:=bC hk3 (by omega);refine⟨⟨w1,Cq ha hk h.dG hk3 (by omega) (by omega),hk.dG.trans h.dG,hk.me.trans h.me,hk.near.trans h.near,by omega,by omega⟩,w2⟩
def ku (l:List Ou) (k:Nat):Nat:=((l.take k).filter fun o=>decide (o.kind=4)).length
theorem MH (l:List Ou) (k:Nat):ku l k<=k:=aK (aW _ _) (by rw [List.length_take]; omega)
theorem EA {l:List Ou} {k:Nat} {o:Ou} (h:l[k]?=au o):ku l (k+1)=ku l k+(if o.kind=4 then 1 else 0):=by
 unfold ku;rw [List.take_add_one,h,aP,aI];by_cases h1:o.kind=4 <;> simp [h1]
theorem SG {W:aZ} {pp:aM} {v u:bf} (h0:W.cell? (pp.add 0)=au v) (h1:W.cell? (pp.add 1)=au u):(Instr.loadAt 52 (ak (au pp))).run aC W=.ok (bI #[v,u]) W:=by
 rw [Rw.add_zero] at h0;simp [Addr.add] at h1;simp [go_sem,h0,h1]
end Rt
namespace Sb
open Go.RowKit Go.Sort Rw YtghlpefopidlaaaGreat.Nm Pr Bk Av Rl
abbrev tA (m:List En) (a:Ad):Bool:=a.par == -1 || qc (jW m a.id)
theorem EB (b:Br) (nv av sv ev ov:Sl) (w:aZ) (h:lW w b nv av sv ev ov) (hr:fV b.ent) (hl:b.ent.length<=1000) (hok:∀ e∈b.ent,dU e.p) :
  Calls aC 25 #[nO b.me nv av sv ev ov] w fun e w'=>e=.returned (.bool (zw b))/\Below w.heap.size w w':=by
 obtain⟨no,nn,nc⟩:=nv;obtain⟨ao,an,ac⟩:=av;obtain⟨so,sn,sc⟩:=sv;obtain⟨eo,en,ec⟩:=ev;obtain⟨oo,kg,oc⟩:=ov;obtain⟨la,ha1,ha2⟩:=h.dG;obtain⟨le,he1,he2⟩:=h.ent;have h0:=iM w (.cells #[aD aF b.me,L no nn nc,L ao an ac,L so sn sc,L eo en ec,L oo kg oc] 30);have X:=dK w #[aD aF b.me,L no nn nc,L ao an ac,L so sn sc,L eo en ec,L oo kg oc] 30;have B:=O h0;have A1:=O (ha1.on h0);have A2:=O (ha2.mono fun _ _ q=>q.on h0);have E1:=O (he1.on h0);have E2:=O (he2.mono fun _ _ q=>q.on h0);have X1:=O X;have x2:=X.cell 2;simp only [aO,aT,aU] at x2;have hn:=gL ha1;have lm:=ha1.most;unfold maxLen at lm;rw [hn] at lm;have HN:=O hn;have HR:=O hr;have HL:=O (show le.length<=1000 by rw [he2.len]; exact hl);have OK:=O hok;obtain⟨tb,htb⟩:∃ r,zw b=r:=⟨_,rfl⟩;rw [htb];have TB:=O htb;clear h0 X ha1 ha2 he1 he2 h hn hr hl hok htb;go_enter Tryz.func25,Tryz.ntmps25;go_upto_region 1 with fail;generalize w.alloc (.cells #[aD aF b.me,L no nn nc,L ao an ac,L so sn sc,L eo en ec,L oo kg oc] 30)=W at *;go_wp2
 go_loopw [8] (fun i wr=>∃ k:Nat,k<=an/\i=aD aF k/\Below W.heap.size W wr/\∀ (j:Nat) (y:Ad),j<k->b.dG[j]?=au y->tA b.ent y=aQ) (fun i _=>an-(intOf i).toNat)
 case atStart=>exact⟨0,aR _,rfl,aj _ _,fun j y h=>by omega⟩
 case round =>
  obtain⟨k,hk,rfl,hbe,hall⟩:=hrel;have BE:=O hbe;have AL:=O hall;clear hbe hall;by_cases hlt:k<an
  ·obtain⟨y,hy⟩:∃ y,la[k]?=au y:=⟨_,V (by rw [HN.out]; exact hlt)⟩;obtain⟨q,ix,px⟩:=Ul A1.out rfl HN.out hy;obtain⟨p0,p1,p2,p3⟩:=px wr BE.out;obtain⟨a,ha⟩:∃ a,b.dG[k]?=au a:=⟨_,V (by rw [<- A2.out.len,HN.out]; exact hlt)⟩;obtain⟨y',hy',hx⟩:=A2.out.at k a ha;rw [hy] at hy';obtain rfl:=J hy';obtain⟨y1,y2,⟨yo,yn,yc⟩,y4⟩:=y;simp only at p0 p1 p2 p3;have NB:=O (iM wr (.cells #[aD aF y1,aD aF y2,L yo yn yc,aD aF y4] 36));have BF:=O (BE.out.trans (NB.out.mono BE.out.size));have x4:=(X1.out.on BF.out).cell 4;simp only [aO,aT,aU] at x4;have hw3:IntKind.i64.wrap ((k:Int)+1)=(k:Int)+1:=IntWalk.i64_in _ (by omega);have HA:=O ha;have HX:=O (show ((y1,y2):dO)=a.id/\y4=a.par from ⟨hx.1,hx.2.1⟩);clear px hy ha hx x2;by_cases hp:y4=-1
   ·have hne:(y4 != -1)=false:=by simp [hp]
    have HV:=O (show tA b.ent a=aQ by unfold tA; rw [<- HX.out.2,hp]; rfl);clear hp;go_wp2
    go_roundw
    case rel=>exact⟨k+1,by omega,by go_num,BF.out,fun j y' hj h1=>by
     rcases bF j k with h3|h3
     ·exact AL.out j y' h3 h1
     ·obtain rfl:j=k:=by omega
      have e1:=HA.out;rw [h1] at e1;rw [J e1];exact HV.out⟩
    case measure=>simp [intOf]; omega
   ·have hne:(y4 != -1)=aQ:=by simp [hp]
    obtain⟨t,ht⟩:∃ r,qc (jW b.ent (y1,y2))=r:=⟨_,rfl⟩;have HV:=O (show tA b.ent a=t by
     unfold tA;rw [<- HX.out.2,<- HX.out.1,ht,show (y4 == -1)=false by simpa using hp,Bool.false_or])
    have BR:=O (qh (eo,en,ec) le b.ent (y1,y2) _ (E1.out.on BF.out) (E2.out.mono fun _ _ q=>q.on BF.out) HR.out HL.out);obtain⟨c1,c2⟩:=K8 E1.out E2.out (y1,y2);have C1:=O c1;have C2:=O c2;generalize cutV (eo,en,ec) (gy b.ent (y1,y2)) (jW b.ent (y1,y2)).length=z at *;obtain⟨z1,z2,z3⟩:=z;have HT:=O ht;clear hp c1 c2 ht;go_wp2_with fail;refine BR.out.mono ?_;rintro e1 w1 ⟨rfl,hb⟩;have BG:=O (BF.out.trans (hb.mono BF.out.size));have TC:=O (Iw (z1,z2,z3) _ (jW b.ent (y1,y2)) w1 (C1.out.on BG.out) (C2.out.mono fun _ _ q=>q.on BG.out) (fun e he=>OK.out e (K9 _ _ e he)));rw [HT.out] at TC;clear hb BR x4 p0 p1 p2 p3 ix;go_wp2_with fail;refine TC.out.mono ?_;rintro e2 w2 ⟨rfl,hb⟩;have BH:=O (BG.out.trans (hb.mono BG.out.size));clear hb TC;cases t
    ·have hd:=O (show tb=false by rw [<- TB.out]; exact K7 (tA b.ent) HA.out HV.out);go_wp2;go_ret;exact⟨by rw [hd.out]; rfl,B.out.trans (BH.out.mono B.out.size)⟩
    ·go_wp2
     go_roundw
     case rel=>exact⟨k+1,by omega,by go_num,BH.out,fun j y' hj h1=>by
      rcases bF j k with h3|h3
      ·exact AL.out j y' h3 h1
      ·obtain rfl:j=k:=by omega
       have e1:=HA.out;rw [h1] at e1;rw [J e1];exact HV.out⟩
     case measure=>simp [intOf]; omega
  ·obtain rfl:an=k:=by omega
   have hd:=O (show tb=aQ by rw [<- TB.out]; exact K6 (tA b.ent) fun j y hj h=>AL.out j y (by rw [<- HN.out,A2.out.len]; exact hj) h);clear x2;go_wp2;go_ret;exact⟨by rw [hd.out]; rfl,B.out.trans (BE.out.mono B.out.size)⟩
end Sb
namespace Rt
open Go.RowKit Go.Sort Rw YtghlpefopidlaaaGreat.Nm Pr Bk Av Rl Sb Fl
def VW (_B:Nat) (_bB:Nat) (b:Br) (s1:Option aM) (s2 s3:Nat) (s4:Option aM) (s5 s6:Nat) (s7:Option aM) (s8 s9:Nat) (s10:Option aM) (s11 s12:Nat) (s13:Option aM) (s14 s15:Nat) (po:Option aM) (pn pc kk:Nat) (pp:aM) (h1:Option aM) (h2 h3:Nat) (g1:Option aM) (g2 g3:Nat) (has vals:List Int) (i:Nat) (v:bf) (x:aZ):Prop :=
 match i with
 | 0=>v=nO b.me (s1,s2,s3) (s4,s5,s6) (s7,s8,s9) (s10,s11,s12) (s13,s14,s15)
 | 1=>v=aD aF (kk:Int)
 | 2=>v=bI #[aD aF (kk:Int),aD aF 1]
 | 3=>v=L po pn pc
 | 4=>v=aD aF (kk:Int)
 | 5=>v=ak (au pp)
 | 6=>v=bI #[L h1 h2 h3,L g1 g2 g3]
 | 7=>∃ sl:Sl,v=dN sl/\gq x v ((jw has vals 7).map r5)
 | 8=>∃ nv av sv ev ov s:Sl,v=.tuple #[nO (eF b ((kk:Int),1) ((jw has vals 7).map r5)).1.me nv av sv ev ov,dN s]/\pE x (eF b ((kk:Int),1) ((jw has vals 7).map r5)).1 nv av sv ev ov/\kV x s (eF b ((kk:Int),1) ((jw has vals 7).map r5)).2
 | 9=>∃ nv av sv ev ov s:Sl,v=.tuple #[nO (eF b ((kk:Int),1) ((jw has vals 7).map r5)).1.me nv av sv ev ov,dN s]/\pE x (eF b ((kk:Int),1) ((jw has vals 7).map r5)).1 nv av sv ev ov/\kV x s (eF b ((kk:Int),1) ((jw has vals 7).map r5)).2
 | 10=>∃ nv av sv ev ov:Sl,v=nO (eF b ((kk:Int),1) ((jw has vals 7).map r5)).1.me nv av sv ev ov/\pE x (eF b ((kk:Int),1) ((jw has vals 7).map r5)).1 nv av sv ev ov
 | 11=>∃ s:Sl,v=dN s/\kV x s (eF b ((kk:Int),1) ((jw has vals 7).map r5)).2
 | 12=>True
 | 13=>True
 | 14=>∃ s:Sl,v=dN s/\kV x s (eF b ((kk:Int),1) ((jw has vals 7).map r5)).2
 | _=>True
noncomputable def Qo:Code:=((Tryz.f7.body.bind (eP 15)).getD .skip)
theorem Y5 (Q:Exit->Act->aZ->Prop) (W:aZ) (bB:Nat) (b:Br) (s1:Option aM) (s2 s3:Nat) (s4:Option aM) (s5 s6:Nat) (s7:Option aM) (s8 s9:Nat) (s10:Option aM) (s11 s12:Nat) (s13:Option aM) (s14 s15:Nat) (po:Option aM) (pn pc kk:Nat) (pp:aM) (h1:Option aM) (h2 h3:Nat) (g1:Option aM) (g2 g3:Nat) (has vals:List Int) (u1 u2 u3 u4 u6 u7 u8 u9 u11 u12 u13 u14 u15 u16 u17 u18 u19 u20 u21 u22 u23 u24 u25 u26 u27 u28 u29 u30 u31 u32 u33 u34 u35 u36 u37 u38 u39 u40 u41 u42 u43 u44 u45 u46 u47 u48 u49 u50 u51 u52 u53 u54 u55 u56 u57 u58 u59 u60 u61 u62 u63 u64 u65 u66 u67 u68 u69 u70 u71 u72 u73 u74 u75 u76 u77 u78 u79 u80 u81 u82 u83 u84 u85 u86 u87 u88 u89 u90 u91 u92 u93 u94 u95 u96 u97 u98 u99 u100 u101 u102 u103 u104 u105 u106 u107 u108 u109 u110 u111 u112 u113 u114 u115 u116 u117 u118 u119 u120 u121 u122 u123 u124 u125 u126 u127 u128 u129 u130 u131 u132 u133 u134 u135 u136 u137 u138 u139 u140 u141 u142 u143 u144 u145 u146 u147 u148 u149 u150 u151 u152 u153 u154 u155 u156 u157 u158 u159 u160 u161 u162 u163 u164 u165 u166 u167 u168 u169 u170 u171 u172 u173 u174 u175 u176:bf)
  (hx:dx W bB #[aD aF b.me,L s1 s2 s3,L s4 s5 s6,L s7 s8 s9,L s10 s11 s12,L s13 s14 s15] 30) (bn:pE W b (s1,s2,s3) (s4,s5,s6) (s7,s8,s9) (s10,s11,s12) (s13,s14,s15)) (rn:SF b) (ix:∀ w,(Instr.indexAt 73 (L po pn pc) (aD aF (kk:Int))).run aC w=.ok (ak (au pp)) w) (pb:pp.block<W.heap.size) (pcs:∀ (j:Nat) u,#[(L h1 h2 h3:bf),L g1 g2 g3][j]?=au u->W.cell? (pp.add j)=au u) (ih:In.jY W (L h1 h2 h3) has) (iv:In.jY W (L g1 g2 g3) vals) (lh:has.length<=maxLen) (lv:vals.length<=maxLen) (ppk:dU ((jw has vals 7).map r5)) (rq:Wr.gV ((jw has vals 7).map r5)=aQ)
  (hQ:∀ (x:aZ) (bb:Nat) (v60 v61 v62 v63 v64 v65 v66 v67 v68 v69 v70 v71:bf) (m1:Option aM) (m2 m3:Nat) (m4:Option aM) (m5 m6:Nat) (m7:Option aM) (m8 m9:Nat) (m10:Option aM) (m11 m12:Nat) (m13:Option aM) (m14 m15:Nat) (o1:Option aM) (o2 o3:Nat),W.heap.size<=bb->dx x bb #[aD aF (eF b ((kk:Int),1) ((jw has vals 7).map r5)).1.me,L m1 m2 m3,L m4 m5 m6,L m7 m8 m9,L m10 m11 m12,L m13 m14 m15] 30->pE x (eF b ((kk:Int),1) ((jw has vals 7).map r5)).1 (m1,m2,m3) (m4,m5,m6) (m7,m8,m9) (m10,m11,m12) (m13,m14,m15)->kV x (o1,o2,o3) (eF b ((kk:Int),1) ((jw has vals 7).map r5)).2->Below W.heap.size W x->Q .normal ⟨(L po pn pc::u1::u2::u3::u4::ak (au ⟨bB,0,ay⟩)::u6::u7::u8::u9::aD aF (kk:Int)::ak (au ⟨bb,0,ay⟩)::dN (o1,o2,o3)::u13::u14::u15::u16::u17::u18::u19::u20::u21::u22::u23::u24::u25::u26::u27::u28::u29::u30::u31::u32::u33::u34::u35::u36::u37::u38::u39::u40::u41::u42::u43::u44::u45::u46::u47::u48::u49::u50::u51::u52::u53::u54::u55::u56::u57::u58::u59::v60::v61::v62::v63::v64::v65::v66::v67::v68::v69::v70::v71::u72::u73::u74::u75::u76::u77::u78::u79::u80::u81::u82::u83::u84::u85::u86::u87::u88::u89::u90::u91::u92::u93::u94::u95::u96::u97::u98::u99::u100::u101::u102::u103::u104::u105::u106::u107::u108::u109::u110::u111::u112::u113::u114::u115::u116::u117::u118::u119::u120::u121::u122::u123::u124::u125::u126::u127::u128::u129::u130::u131::u132::u133::u134::u135::u136::u137::u138::u139::u140::u141::u142::u143::u144::u145::u146::u147::u148::u149::u150::u151::u152::u153::u154::u155::u156::u157::u158::u159::u160::u161::u162::u163::u164::u165::u166::u167::u168::u169::u170::u171::u172::u173::u174::u175::u176::[]).toArray,[]⟩ x) :
  Code.wp aC Qo Q ⟨(L po pn pc::u1::u2::u3::u4::ak (au ⟨bB,0,ay⟩)::u6::u7::u8::u9::aD aF (kk:Int)::u11::u12::u13::u14::u15::u16::u17::u18::u19::u20::u21::u22::u23::u24::u25::u26::u27::u28::u29::u30::u31::u32::u33::u34::u35::u36::u37::u38::u39::u40::u41::u42::u43::u44::u45::u46::u47::u48::u49::u50::u51::u52::u53::u54::u55::u56::u57::u58::u59::u60::u61::u62::u63::u64::u65::u66::u67::u68::u69::u70::u71::u72::u73::u74::u75::u76::u77::u78::u79::u80::u81::u82::u83::u84::u85::u86::u87::u88::u89::u90::u91::u92::u93::u94::u95::u96::u97::u98::u99::u100::u101::u102::u103::u104::u105::u106::u107::u108::u109::u110::u111::u112::u113::u114::u115::u116::u117::u118::u119::u120::u121::u122::u123::u124::u125::u126::u127::u128::u129::u130::u131::u132::u133::u134::u135::u136::u137::u138::u139::u140::u141::u142::u143::u144::u145::u146::u147::u148::u149::u150::u151::u152::u153::u154::u155::u156::u157::u158::u159::u160::u161::u162::u163::u164::u165::u166::u167::u168::u169::u170::u171::u172::u173::u174::u175::u176::[]).toArray,[]⟩ W:=by
 have HQ:=O hQ;have HX:=O hx;have BN:=O bn;have RN:=O rn;have IX:=O ix;have PB:=O pb;have PC:=O pcs;have IH:=O ih;have IV:=O iv;have LH:=O lh;have LV:=O lv;have PP:=O ppk;have RQ:=O rq;clear hQ hx bn rn ix pb pcs ih iv lh lv ppk rq;unfold Qo
 conv=>arg 2; whnf
 have nb0:∀ i,i<15->[61,62,63,64,65,66,67,68,69,60,70,71,11,11,12].getD i 0≠0:=by decide
 have TW:∀ i,i<15->[61,62,63,64,65,66,67,68,69,60,70,71,11,11,12].getD i 0≠5:=by decide
 have VX:∀ i,i<15->[61,62,63,64,65,66,67,68,69,60,70,71,11,11,12].getD i 0≠10:=by decide
 refine Rg.xH 15 12 13 10 (fun i=>[61,62,63,64,65,66,67,68,69,60,70,71,11,11,12].getD i 0) (fun i=>if i=7 then 8 else if i=8 then 9 else 15) (VW W.heap.size bB b s1 s2 s3 s4 s5 s6 s7 s8 s9 s10 s11 s12 s13 s14 s15 po pn pc kk pp h1 h2 h3 g1 g2 g3 has vals) 30 #[aD aF 0,L ay 0 0,L ay 0 0,L ay 0 0,L ay 0 0,L ay 0 0] (fun v=>match v with | bI c=>c | _=>#[]) (by kernel_rfl) (by kernel_rfl) rfl (by decide) (by decide) (by decide) (by decide) (by decide) (by decide) (by decide) (fun i j hi hj h1 h2 h=>(by decide:∀ i,i<15->∀ j,j<15->i≠13->j≠13->[61,62,63,64,65,66,67,68,69,60,70,71,11,11,12].getD i 0=[61,62,63,64,65,66,67,68,69,60,70,71,11,11,12].getD j 0->i=j) i hi j hj h1 h2 h) (fun i hi=>(by decide:∀ i,i<15->[61,62,63,64,65,66,67,68,69,60,70,71,11,11,12].getD i 0<177) i hi) ?_ ?_ ?_ ?_ ?_ ?_
 ·intro i v x x' hi h hb;rcases (by omega:i=0\/i=1\/i=2\/i=3\/i=4\/i=5\/i=6\/i=7\/i=8\/i=9\/i=10\/i=11\/i=12\/i=13\/i=14) with rfl|rfl|rfl|rfl|rfl|rfl|rfl|rfl|rfl|rfl|rfl|rfl|rfl|rfl|rfl
  ·exact h
  ·exact h
  ·exact h
  ·exact h
  ·exact h
  ·exact h
  ·exact h
  ·obtain⟨s,h1,h2⟩:=h; exact⟨s,h1,h2.on hb⟩
  ·obtain⟨a1,a2,a3,a4,a5,a6,h1,h2,h3⟩:=h; exact⟨a1,a2,a3,a4,a5,a6,h1,h2.on hb,h3.on hb⟩
  ·obtain⟨a1,a2,a3,a4,a5,a6,h1,h2,h3⟩:=h; exact⟨a1,a2,a3,a4,a5,a6,h1,h2.on hb,h3.on hb⟩
  ·obtain⟨a1,a2,a3,a4,a5,h1,h2⟩:=h; exact⟨a1,a2,a3,a4,a5,h1,h2.on hb⟩
  ·obtain⟨s,h1,h2⟩:=h; exact⟨s,h1,h2.on hb⟩
  ·exact h
  ·exact h
  ·obtain⟨s,h1,h2⟩:=h; exact⟨s,h1,h2.on hb⟩
 ·intro o ho;cases ho;exact⟨⟨⟨12,.data⟩,by simp,rfl,rfl⟩,⟨⟨10,.data⟩,by simp,rfl,rfl⟩⟩
 ·intro i o hi Rs wE ho a x hb seen K hK;clear HQ;rcases (by omega:i=0\/i=1\/i=2\/i=3\/i=4\/i=5\/i=6\/i=7\/i=8\/i=9\/i=10\/i=11\/i=14) with rfl|rfl|rfl|rfl|rfl|rfl|rfl|rfl|rfl|rfl|rfl|rfl|rfl
  ·cases ho;have e5:a.eval (aL 5)=ak (au ⟨bB,0,ay⟩):=seen.kp 5 _ TW rfl;exact Rg.dw rfl rfl (Rg.eH a.eval _ 30 (aL 5) rfl (by rw [e5]; exact Dq (HX.out.on hb))) (hK _ x rfl (aj _ _))
  ·cases ho;have e10:a.eval (aL 10)=aD aF (kk:Int):=seen.kp 10 _ VX rfl;exact Rg.dw rfl rfl (Rg.iw a.eval _ (aL 10) rfl x) (hK _ x e10 (aj _ _))
  ·cases ho;have e62:a.eval (aL 62)=aD aF (kk:Int):=seen.at_ ⟨1,.data⟩ (by simp) rfl (by decide) (by decide) (aJ (by decide));exact Rg.dw rfl rfl (Rg.jo a.eval _ 23 #[(0,aL 62),(1,.const (aD aF 1))] rfl (ps:=#[(0,aD aF (kk:Int)),(1,aD aF 1)]) (by simp only [List.map_toArray,List.map_cons,aY,e62]; rfl) (by simp [go_sem])) (hK _ x rfl (aj _ _))
  ·cases ho;have e0:a.eval (aL 0)=L po pn pc:=seen.kp 0 _ nb0 rfl;exact Rg.dw rfl rfl (Rg.iw a.eval _ (aL 0) rfl x) (hK _ x e0 (aj _ _))
  ·cases ho;have e10:a.eval (aL 10)=aD aF (kk:Int):=seen.kp 10 _ VX rfl;exact Rg.dw rfl rfl (Rg.iw a.eval _ (aL 10) rfl x) (hK _ x e10 (aj _ _))
  ·cases ho;have e64:a.eval (aL 64)=L po pn pc:=seen.at_ ⟨3,.data⟩ (by simp) rfl (by decide) (by decide) (aJ (by decide));have e65:a.eval (aL 65)=aD aF (kk:Int):=seen.at_ ⟨4,.data⟩ (by simp) rfl (by decide) (by decide) (aJ (by decide));exact Rg.dw rfl rfl (Rg.kM a.eval _ 73 (aL 64) (aL 65) rfl (by rw [e64,e65]; exact IX.out x)) (hK _ x rfl (aj _ _))
  ·cases ho;have e66:a.eval (aL 66)=ak (au pp):=seen.at_ ⟨5,.data⟩ (by simp) rfl (by decide) (by decide) (aJ (by decide));have y0:=hb.cell (p:=pp.add 0) (by rw [nD]; exact PB.out);have y1:=hb.cell (p:=pp.add 1) (by rw [nD]; exact PB.out);rw [PC.out 0 _ rfl] at y0;rw [PC.out 1 _ rfl] at y1;exact Rg.dw rfl rfl (Rg.eH a.eval _ 52 (aL 66) rfl (by rw [e66]; exact SG y0 y1)) (hK _ x rfl (aj _ _))
  ·cases ho;have e67:a.eval (aL 67)=bI #[L h1 h2 h3,L g1 g2 g3]:=seen.at_ ⟨6,.data⟩ (by simp) rfl (by decide) (by decide) (aJ (by decide));exact Rg.gG rfl rfl (Rw.iq a.eval _ (aL 67) 52 15 rfl e67 rfl _ (fG Tryz.func15 rfl rfl _ _)) (Kl (L h1 h2 h3) (L g1 g2 g3) has vals x (IH.out.on hb) (IV.out.on hb) LH.out LV.out) fun e w1 h=>by
    obtain⟨v,rfl,q1,q2⟩:=h;have q3:=Row.dB q1;obtain⟨a1,a2,hvv⟩:=q3.len;exact⟨_,rfl,hK _ _ ⟨(a1,_,a2),hvv,q3⟩ q2⟩
  ·cases ho;have e61:a.eval (aL 61)=nO b.me (s1,s2,s3) (s4,s5,s6) (s7,s8,s9) (s10,s11,s12) (s13,s14,s15):=seen.at_ ⟨0,.data⟩ (by simp) rfl (by decide) (by decide) (aJ (by decide));have e63:a.eval (aL 63)=bI #[aD aF (kk:Int),aD aF 1]:=seen.at_ ⟨2,.data⟩ (by simp) rfl (by decide) (by decide) (aJ (by decide));have E68:=seen.at_ ⟨7,.data⟩ (by simp) rfl (by decide) (by decide) (bq rfl);obtain⟨⟨l1,l2,l3⟩,q0,q1⟩:=E68;have q0:a.eval (aL 68)=L l1 l2 l3:=q0;have q2:gq x (L l1 l2 l3) ((jw has vals 7).map r5):=by rw [<- q0]; exact q1
   exact Rg.gG rfl rfl (oO a.eval _ (aL 61) (aL 63) (aL 68) 30 23 34 10 rfl e61 e63 q0 rfl _ (fG Tryz.func10 rfl rfl _ _)) (vP b s1 s2 s3 s4 s5 s6 s7 s8 s9 s10 s11 s12 s13 s14 s15 (kk:Int) 1 l1 l2 l3 ((jw has vals 7).map r5) x (BN.out.on hb) q2 RN.out.rt RN.out.lo PP.out RQ.out) fun e w1 h=>by
    obtain⟨⟨a1,a2,a3,a4,a5,a6,lx,rfl,h2,_,h3⟩,h5⟩:=h;exact⟨_,rfl,hK _ _ ⟨a1,a2,a3,a4,a5,a6,rfl,h2,h3.outs⟩ h5⟩
  ·cases ho;have E69:=seen.at_ ⟨8,.data⟩ (by simp) rfl (by decide) (by decide) (bq rfl);exact Rg.dw rfl rfl (Rg.iw a.eval _ (aL 69) rfl x) (hK _ x E69 (aj _ _))
  ·cases ho;have Y6:=seen.at_ ⟨9,.data⟩ (by simp) rfl (by decide) (by decide) (aJ (by decide));obtain⟨a1,a2,a3,a4,a5,a6,h1,h2,_⟩:=Y6;exact Rg.dw rfl rfl (jN a.eval _ (aL 60) 0 rfl (c:=#[nO (eF b ((kk:Int),1) ((jw has vals 7).map r5)).1.me a1 a2 a3 a4 a5,dN a6]) h1 rfl x) (hK _ x ⟨a1,a2,a3,a4,a5,rfl,h2⟩ (aj _ _))
  ·cases ho;have Y6:=seen.at_ ⟨9,.data⟩ (by simp) rfl (by decide) (by decide) (aJ (by decide));obtain⟨a1,a2,a3,a4,a5,a6,h1,_,h3⟩:=Y6;exact Rg.dw rfl rfl (jN a.eval _ (aL 60) 1 rfl (c:=#[nO (eF b ((kk:Int),1) ((jw has vals 7).map r5)).1.me a1 a2 a3 a4 a5,dN a6]) h1 rfl x) (hK _ x ⟨a6,rfl,h3⟩ (aj _ _))
  ·cases ho;have E71:=seen.at_ ⟨11,.data⟩ (by simp) rfl (by decide) (by decide) (aJ (by decide));exact Rg.dw rfl rfl (Rg.mo a.eval _ (aL 71) rfl x) (hK _ x E71 (aj _ _))
 ·intro o ho a x K hK;cases ho;exact Rg.dw rfl rfl (Rg.Af a.eval _ 30 rfl (by simp [go_sem])) hK
 ·intro o ho a x bb v D hc hD hb hA hC Mk hbb jk K hK;clear HQ;cases ho;obtain⟨⟨m1,m2,m3⟩,⟨m4,m5,m6⟩,⟨m7,m8,m9⟩,⟨m10,m11,m12⟩,⟨m13,m14,m15⟩,hv1,hv2⟩:=Mk;subst hv1;have iR:=Go.Proofs.YtghlpefopidlaaaGreat.Av.dW x bb (aD aF (eF b ((kk:Int),1) ((jw has vals 7).map r5)).1.me) (L m1 m2 m3) (L m4 m5 m6) (L m7 m8 m9) (L m10 m11 m12) (L m13 m14 m15);refine Rg.gN 30 (aL 11) (aL 70) rfl rfl rfl rfl hA hC (w':=iI x bb (aD aF (eF b ((kk:Int),1) ((jw has vals 7).map r5)).1.me) (L m1 m2 m3) (L m4 m5 m6) (L m7 m8 m9) (L m10 m11 m12) (L m13 m14 m15)) (qC jk _ _ _ _ _ _ _ _ _ _ _ _ _ _ _ _) (hK _ (dD hb hbb _ _ _ _ _ _) (dP jk _ _ _ _ _ _) ?_);exact fun j u hj hjA hjS hdj hnl hls h=>by
   rcases (by omega:j=0\/j=1\/j=2\/j=3\/j=4\/j=5\/j=6\/j=7\/j=8\/j=9\/j=10\/j=11\/j=14) with rfl|rfl|rfl|rfl|rfl|rfl|rfl|rfl|rfl|rfl|rfl|rfl|rfl
   ·have h2:u=nO b.me (s1,s2,s3) (s4,s5,s6) (s7,s8,s9) (s10,s11,s12) (s13,s14,s15):=h; exact h2
   ·have h2:u=aD aF (kk:Int):=h; exact h2
   ·have h2:u=bI #[aD aF (kk:Int),aD aF 1]:=h; exact h2
   ·have h2:u=L po pn pc:=h; exact h2
   ·have h2:u=aD aF (kk:Int):=h; exact h2
   ·have h2:u=ak (au pp):=h; exact h2
   ·have h2:u=bI #[L h1 h2 h3,L g1 g2 g3]:=h; exact h2
   ·exact absurd (hD ⟨8,.chain⟩ (by simp) rfl) hnl
   ·exact absurd (hD ⟨9,.phase⟩ (by simp) rfl) hnl
   ·obtain⟨a1,a2,a3,a4,a5,a6,h1,h2,h3⟩:=h; exact⟨a1,a2,a3,a4,a5,a6,h1,h2.keep (s1:=(ay,0,0)) (s2:=(ay,0,0)) (s3:=(ay,0,0)) (s4:=(ay,0,0)) (s5:=(ay,0,0)) (me:=0) jk iR,oW (s1:=(ay,0,0)) (s2:=(ay,0,0)) (s3:=(ay,0,0)) (s4:=(ay,0,0)) (s5:=(ay,0,0)) (me:=0) h3 jk iR.1⟩
   ·obtain⟨a1,a2,a3,a4,a5,h1,h2⟩:=h; exact⟨a1,a2,a3,a4,a5,h1,h2.keep (s1:=(ay,0,0)) (s2:=(ay,0,0)) (s3:=(ay,0,0)) (s4:=(ay,0,0)) (s5:=(ay,0,0)) (me:=0) jk iR⟩
   ·obtain⟨s,h1,h2⟩:=h; exact⟨s,h1,oW (s1:=(ay,0,0)) (s2:=(ay,0,0)) (s3:=(ay,0,0)) (s4:=(ay,0,0)) (s5:=(ay,0,0)) (me:=0) h2 jk iR.1⟩
   ·obtain⟨s,h1,h2⟩:=h; exact⟨s,h1,oW (s1:=(ay,0,0)) (s2:=(ay,0,0)) (s3:=(ay,0,0)) (s4:=(ay,0,0)) (s5:=(ay,0,0)) (me:=0) h2 jk iR.1⟩
 ·intro a x bb v df sz kp gA gC hbb jk Mk hbel ⟨vs,hv⟩;obtain⟨⟨m1,m2,m3⟩,⟨m4,m5,m6⟩,⟨m7,m8,m9⟩,⟨m10,m11,m12⟩,⟨m13,m14,m15⟩,hv1,hv2⟩:=Mk;subst hv1;have g11:a.tmps[11]?=au (ak (au ⟨bb,0,ay⟩)):=gA;obtain⟨⟨o1,o2,o3⟩,ho1,ho2⟩:=(hv 14 (by decide) (by decide) (by decide)).2 (by decide);have g12:a.tmps[12]?=au (dN (o1,o2,o3)):=by
   rw [<- ho1];exact (hv 14 (by decide) (by decide) (by decide)).1
  have wL:∀ j,(j<11\/72<=j)->a.tmps[j]?=(L po pn pc::u1::u2::u3::u4::ak (au ⟨bB,0,ay⟩)::u6::u7::u8::u9::aD aF (kk:Int)::u11::u12::u13::u14::u15::u16::u17::u18::u19::u20::u21::u22::u23::u24::u25::u26::u27::u28::u29::u30::u31::u32::u33::u34::u35::u36::u37::u38::u39::u40::u41::u42::u43::u44::u45::u46::u47::u48::u49::u50::u51::u52::u53::u54::u55::u56::u57::u58::u59::u60::u61::u62::u63::u64::u65::u66::u67::u68::u69::u70::u71::u72::u73::u74::u75::u76::u77::u78::u79::u80::u81::u82::u83::u84::u85::u86::u87::u88::u89::u90::u91::u92::u93::u94::u95::u96::u97::u98::u99::u100::u101::u102::u103::u104::u105::u106::u107::u108::u109::u110::u111::u112::u113::u114::u115::u116::u117::u118::u119::u120::u121::u122::u123::u124::u125::u126::u127::u128::u129::u130::u131::u132::u133::u134::u135::u136::u137::u138::u139::u140::u141::u142::u143::u144::u145::u146::u147::u148::u149::u150::u151::u152::u153::u154::u155::u156::u157::u158::u159::u160::u161::u162::u163::u164::u165::u166::u167::u168::u169::u170::u171::u172::u173::u174::u175::u176::[])[j]?:=fun j hj=>(kp j (fun i hi h=>by have:=(by decide:∀ i,i<15->11<=[61,62,63,64,65,66,67,68,69,60,70,71,11,11,12].getD i 0/\[61,62,63,64,65,66,67,68,69,60,70,71,11,11,12].getD i 0<72) i hi; omega)).trans aO;obtain⟨mid,hmid,rfl⟩:=Rg.iC 11 61 df sz (by simp) wL
  match mid,hmid with
  | v11::v12::v13::v14::v15::v16::v17::v18::v19::v20::v21::v22::v23::v24::v25::v26::v27::v28::v29::v30::v31::v32::v33::v34::v35::v36::v37::v38::v39::v40::v41::v42::v43::v44::v45::v46::v47::v48::v49::v50::v51::v52::v53::v54::v55::v56::v57::v58::v59::v60::v61::v62::v63::v64::v65::v66::v67::v68::v69::v70::v71::[],_ =>
   obtain rfl:v11=ak (au ⟨bb,0,ay⟩):=J g11;obtain rfl:v12=dN (o1,o2,o3):=J g12;obtain rfl:v13=u13:=J (kp 13 (fun i hi h=>(by decide:∀ i,i<15->[61,62,63,64,65,66,67,68,69,60,70,71,11,11,12].getD i 0≠13) i hi h));obtain rfl:v14=u14:=J (kp 14 (fun i hi h=>(by decide:∀ i,i<15->[61,62,63,64,65,66,67,68,69,60,70,71,11,11,12].getD i 0≠14) i hi h));obtain rfl:v15=u15:=J (kp 15 (fun i hi h=>(by decide:∀ i,i<15->[61,62,63,64,65,66,67,68,69,60,70,71,11,11,12].getD i 0≠15) i hi h));obtain rfl:v16=u16:=J (kp 16 (fun i hi h=>(by decide:∀ i,i<15->[61,62,63,64,65,66,67,68,69,60,70,71,11,11,12].getD i 0≠16) i hi h));obtain rfl:v17=u17:=J (kp 17 (fun i hi h=>(by decide:∀ i,i<15->[61,62,63,64,65,66,67,68,69,60,70,71,11,11,12].getD i 0≠17) i hi h));obtain rfl:v18=u18:=J (kp 18 (fun i hi h=>(by decide:∀ i,i<15->[61,62,63,64,65,66,67,68,69,60,70,71,11,11,12].getD i 0≠18) i hi h));obtain rfl:v19=u19:=J (kp 19 (fun i hi h=>(by decide:∀ i,i<15->[61,62,63,64,65,66,67,68,69,60,70,71,11,11,12].getD i 0≠19) i hi h));obtain rfl:v20=u20:=J (kp 20 (fun i hi h=>(by decide:∀ i,i<15->[61,62,63,64,65,66,67,68,69,60,70,71,11,11,12].getD i 0≠20) i hi h));obtain rfl:v21=u21:=J (kp 21 (fun i hi h=>(by decide:∀ i,i<15->[61,62,63,64,65,66,67,68,69,60,70,71,11,11,12].getD i 0≠21) i hi h));obtain rfl:v22=u22:=J (kp 22 (fun i hi h=>(by decide:∀ i,i<15->[61,62,63,64,65,66,67,68,69,60,70,71,11,11,12].getD i 0≠22) i hi h));obtain rfl:v23=u23:=J (kp 23 (fun i hi h=>(by decide:∀ i,i<15->[61,62,63,64,65,66,67,68,69,60,70,71,11,11,12].getD i 0≠23) i hi h));obtain rfl:v24=u24:=J (kp 24 (fun i hi h=>(by decide:∀ i,i<15->[61,62,63,64,65,66,67,68,69,60,70,71,11,11,12].getD i 0≠24) i hi h));obtain rfl:v25=u25:=J (kp 25 (fun i hi h=>(by decide:∀ i,i<15->[61,62,63,64,65,66,67,68,69,60,70,71,11,11,12].getD i 0≠25) i hi h));obtain rfl:v26=u26:=J (kp 26 (fun i hi h=>(by decide:∀ i,i<15->[61,62,63,64,65,66,67,68,69,60,70,71,11,11,12].getD i 0≠26) i hi h));obtain rfl:v27=u27:=J (kp 27 (fun i hi h=>(by decide:∀ i,i<15->[61,62,63,64,65,66,67,68,69,60,70,71,11,11,12].getD i 0≠27) i hi h));obtain rfl:v28=u28:=J (kp 28 (fun i hi h=>(by decide:∀ i,i<15->[61,62,63,64,65,66,67,68,69,60,70,71,11,11,12].getD i 0≠28) i hi h));obtain rfl:v29=u29:=J (kp 29 (fun i hi h=>(by decide:∀ i,i<15->[61,62,63,64,65,66,67,68,69,60,70,71,11,11,12].getD i 0≠29) i hi h));obtain rfl:v30=u30:=J (kp 30 (fun i hi h=>(by decide:∀ i,i<15->[61,62,63,64,65,66,67,68,69,60,70,71,11,11,12].getD i 0≠30) i hi h));obtain rfl:v31=u31:=J (kp 31 (fun i hi h=>(by decide:∀ i,i<15->[61,62,63,64,65,66,67,68,69,60,70,71,11,11,12].getD i 0≠31) i hi h));obtain rfl:v32=u32:=J (kp 32 (fun i hi h=>(by decide:∀ i,i<15->[61,62,63,64,65,66,67,68,69,60,70,71,11,11,12].getD i 0≠32) i hi h));obtain rfl:v33=u33:=J (kp 33 (fun i hi h=>(by decide:∀ i,i<15->[61,62,63,64,65,66,67,68,69,60,70,71,11,11,12].getD i 0≠33) i hi h));obtain rfl:v34=u34:=J (kp 34 (fun i hi h=>(by decide:∀ i,i<15->[61,62,63,64,65,66,67,68,69,60,70,71,11,11,12].getD i 0≠34) i hi h));obtain rfl:v35=u35:=J (kp 35 (fun i hi h=>(by decide:∀ i,i<15->[61,62,63,64,65,66,67,68,69,60,70,71,11,11,12].getD i 0≠35) i hi h));obtain rfl:v36=u36:=J (kp 36 (fun i hi h=>(by decide:∀ i,i<15->[61,62,63,64,65,66,67,68,69,60,70,71,11,11,12].getD i 0≠36) i hi h));obtain rfl:v37=u37:=J (kp 37 (fun i hi h=>(by decide:∀ i,i<15->[61,62,63,64,65,66,67,68,69,60,70,71,11,11,12].getD i 0≠37) i hi h));obtain rfl:v38=u38:=J (kp 38 (fun i hi h=>(by decide:∀ i,i<15->[61,62,63,64,65,66,67,68,69,60,70,71,11,11,12].getD i 0≠38) i hi h));obtain rfl:v39=u39:=J (kp 39 (fun i hi h=>(by decide:∀ i,i<15->[61,62,63,64,65,66,67,68,69,60,70,71,11,11,12].getD i 0≠39) i hi h));obtain rfl:v40=u40:=J (kp 40 (fun i hi h=>(by decide:∀ i,i<15->[61,62,63,64,65,66,67,68,69,60,70,71,11,11,12].getD i 0≠40) i hi h));obtain rfl:v41=u41:=J (kp 41 (fun i hi h=>(by decide:∀ i,i<15->[61,62,63,64,65,66,67,68,69,60,70,71,11,11,12].getD i 0≠41) i hi h));obtain rfl:v42=u42:=J (kp 42 (fun i hi h=>(by decide:∀ i,i<15->[61,62,63,64,65,66,67,68,69,60,70,71,11,11,12].getD i 0≠42) i hi h));obtain rfl:v43=u43:=J (kp 43 (fun i hi h=>(by decide:∀ i,i<15->[61,62,63,64,65,66,67,68,69,60,70,71,11,11,12].getD i 0≠43) i hi h));obtain rfl:v44=u44:=J (kp 44 (fun i hi h=>(by decide:∀ i,i<15->[61,62,63,64,65,66,67,68,69,60,70,71,11,11,12].getD i 0≠44) i hi h));obtain rfl:v45=u45:=J (kp 45 (fun i hi h=>(by decide:∀ i,i<15->[61,62,63,64,65,66,67,68,69,60,70,71,11,11,12].getD i 0≠45) i hi h));obtain rfl:v46=u46:=J (kp 46 (fun i hi h=>(by decide:∀ i,i<15->[61,62,63,64,65,66,67,68,69,60,70,71,11,11,12].getD i 0≠46) i hi h));obtain rfl:v47=u47:=J (kp 47 (fun i hi h=>(by decide:∀ i,i<15->[61,62,63,64,65,66,67,68,69,60,70,71,11,11,12].getD i 0≠47) i hi h));obtain rfl:v48=u48:=J (kp 48 (fun i hi h=>(by decide:∀ i,i<15->[61,62,63,64,65,66,67,68,69,60,70,71,11,11,12].getD i 0≠48) i hi h));obtain rfl:v49=u49:=J (kp 49 (fun i hi h=>(by decide:∀ i,i<15->[61,62,63,64,65,66,67,68,69,60,70,71,11,11,12].getD i 0≠49) i hi h));obtain rfl:v50=u50:=J (kp 50 (fun i hi h=>(by decide:∀ i,i<15->[61,62,63,64,65,66,67,68,69,60,70,71,11,11,12].getD i 0≠50) i hi h));obtain rfl:v51=u51:=J (kp 51 (fun i hi h=>(by decide:∀ i,i<15->[61,62,63,64,65,66,67,68,69,60,70,71,11,11,12].getD i 0≠51) i hi h));obtain rfl:v52=u52:=J (kp 52 (fun i hi h=>(by decide:∀ i,i<15->[61,62,63,64,65,66,67,68,69,60,70,71,11,11,12].getD i 0≠52) i hi h));obtain rfl:v53=u53:=J (kp 53 (fun i hi h=>(by decide:∀ i,i<15->[61,62,63,64,65,66,67,68,69,60,70,71,11,11,12].getD i 0≠53) i hi h));obtain rfl:v54=u54:=J (kp 54 (fun i hi h=>(by decide:∀ i,i<15->[61,62,63,64,65,66,67,68,69,60,70,71,11,11,12].getD i 0≠54) i hi h));obtain rfl:v55=u55:=J (kp 55 (fun i hi h=>(by decide:∀ i,i<15->[61,62,63,64,65,66,67,68,69,60,70,71,11,11,12].getD i 0≠55) i hi h));obtain rfl:v56=u56:=J (kp 56 (fun i hi h=>(by decide:∀ i,i<15->[61,62,63,64,65,66,67,68,69,60,70,71,11,11,12].getD i 0≠56) i hi h));obtain rfl:v57=u57:=J (kp 57 (fun i hi h=>(by decide:∀ i,i<15->[61,62,63,64,65,66,67,68,69,60,70,71,11,11,12].getD i 0≠57) i hi h));obtain rfl:v58=u58:=J (kp 58 (fun i hi h=>(by decide:∀ i,i<15->[61,62,63,64,65,66,67,68,69,60,70,71,11,11,12].getD i 0≠58) i hi h));obtain rfl:v59=u59:=J (kp 59 (fun i hi h=>(by decide:∀ i,i<15->[61,62,63,64,65,66,67,68,69,60,70,71,11,11,12].getD i 0≠59) i hi h));exact HQ.out x bb _ _ _ _ _ _ _ _ _ _ _ _ m1 m2 m3 m4 m5 m6 m7 m8 m9 m10 m11 m12 m13 m14 m15 o1 o2 o3 hbb jk hv2 ho2 hbel
end Rt
namespace Av
open Go.RowKit Go.ChangeShapes Go.WideShapes Bk
theorem Pj (a:aM) (m len cap:Nat) (h:m<len) (w:aZ):(Instr.indexAt 73 (L (au a) len cap) (aD aF m)).run aC w=.ok (ak (au (a.add (m * 2)))) w:=by
 have h1:(m:Int)<len:=by omega
 simp [go_sem,aS,h1]
structure VY (W:aZ) (v:bf) (n:Nat):Prop where
 shape:∃ ao cap,v=L ao n cap
 at_:∀ i:Nat,i<n->∃ (p:aM) (h1:Option aM) (h2 h3:Nat) (g1:Option aM) (g2 g3:Nat) (has vals:List Int),p.block<W.heap.size/\(∀ w,(Instr.indexAt 73 v (aD aF i)).run aC w=.ok (ak (au p)) w)/\(∀ j u,([L h1 h2 h3,L g1 g2 g3]:List bf)[j]?=au u->W.cell? (p.add j)=au u)/\In.jY W (L h1 h2 h3) has/\In.jY W (L g1 g2 g3) vals/\has.length<=maxLen/\vals.length<=maxLen
theorem SH {H:Type} {enc:TypeId×bf->H} {W:aZ} {r:Reach} {b0:Nat} {sp:Nat->Bool} {held:Bool} {v:bf} {d:DataW H} {ps:List MemPlace}
  (hval:Value.okWide aC W r b0 73 v) (hd:DataW.Trod enc aC W 0 sp held 73 v d ps):∃ n:Nat,n<=maxLen/\VY W v n:=by
 obtain⟨ao,al,ac,rfl⟩:=okWide_slice aS hval;obtain⟨fuel,hf⟩:=hd;rcases Deep.open_slice aS hf with⟨h1,_⟩|⟨a,len,cap,m,n,D,Pl,h1,_,h3,h4,h5,_,hx⟩
 ·have e:L ao al ac=L ay 0 0:=by simpa [bH] using h1
  exact⟨0,aR _,⟨ay,0,e⟩,fun i hi=>by omega⟩
 ·have e:L ao al ac=L (au a) len cap:=by simpa [bH] using h1
  rw [e];have hle:len<=m:=by rw [h5]; split <;> omega
  refine⟨len,by omega,⟨au a,cap,rfl⟩,fun i hi=>?_⟩;obtain⟨cs',k1,k2⟩:=hx i (by omega);obtain⟨ys,n2,_,_,hcl,hyl,hp⟩:=DataW.trod_struct Tryz.underlying52 k2;rw [Pr.Rj] at hcl k1
  match cs',hcl with
  | [c0,d1],_ =>
   have acC:ys.length=2:=hyl;have q0:DataW.trod enc aC W 0 sp held n2 24 (([c0,d1].drop 0).take (Tryz.prog.cellsOf 24))=ys[0]?:=hp 0 _ rfl;have q1:DataW.trod enc aC W 0 sp held n2 24 (([c0,d1].drop 1).take (Tryz.prog.cellsOf 24))=ys[1]?:=hp 1 _ rfl;simp only [Pr.Nn,List.drop_zero,List.drop_succ_cons,List.take_succ_cons,List.take_zero] at q0 q1;rw [V (by omega)] at q0 q1;obtain⟨has,l1,i1⟩:=In.EX q0;obtain⟨vals,l2,i2⟩:=In.EX q1;obtain⟨x1,y1,rfl⟩:=i1.shape;obtain⟨x2,y2,rfl⟩:=i2.shape;obtain⟨_,_,k3⟩:=World.cells?_some k1;have k0:=k3 0 (by decide);rw [Rw.add_zero] at k0;refine⟨a.add (i * 2),x1,_,y1,x2,_,y2,has,vals,World.block_lt_of_cell? W _ k0,fun w=>Pj a i len cap hi w,fun j u hu=>?_,i1,i2,l1,l2⟩;have hj:j<2:=(aG.1 hu).1;rw [<- hu];exact k3 j hj
end Av
end Go.Proofs.YtghlpefopidlaaaGreat
