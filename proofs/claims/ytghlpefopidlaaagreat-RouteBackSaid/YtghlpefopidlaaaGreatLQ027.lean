/-
  Right's closures, an. Conditions as told.
-/
import Derived.Test.YtghlpefopidlaaaGreatLQ026
import Derived.Shelf.Abstract
set_option maxRecDepth 100000
set_option maxHeartbeats 64000000
open _root_.Bool renaming true->U,and_eq_true->aG,false->aJ,true_and->bM,eq_false_iff->bS
open Go.Ending renaming returned->O
open Go.IntKind renaming i64->au
open Go.Lib renaming hid->L
open Go.Obj renaming cells->bK
open Go.Proofs.Tryz renaming prog->aA,ntmps137->bX,func137->cu,func136->cB,func132->cK
open Go.Value renaming int->ak,pointer->aF,slice->aT,bool->bf
open _root_.List renaming getElem?_eq_some_iff->D,getElem?_eq_getElem->J,pairwise_cons->Q,getElem?_map->ah,takeWhile_cons->aj,mem_filter->ay,append_assoc->aB,mem_iff_getElem?->aC,dropWhile_cons->aH,mem_cons->aI,mem_append->aK,length_append->aL,takeWhile_append_dropWhile->aN,take_append_drop->aO,length_cons->aR,mem_cons_of_mem->aS,getElem?_append_right->aU,pairwise_iff_getElem->aV,getElem?_append_left->aW,all_eq_true->aY,getElem_mem->aZ,getElem?_cons_zero->bg,singleton_append->bG,getElem?_eq_none->bH,getElem?_toArray->bI,filter_sublist->bL,all_takeWhile->bN,filter_append->bO,getElem?_set->bR,any_append->bU,any_cons->bV,mem_map->bY
open _root_.Nat renaming le_refl->aD,add_sub_cancel_left->aM,lt_or_ge->bF,add_assoc->bW,add_zero->bZ
open _root_.Option renaming some->V,none->aX
open Option.some renaming inj->K
open _root_.Or renaming inr->aP,inl->aQ
namespace Go.Proofs.YtghlpefopidlaaaGreat
namespace Av
open Go.RowKit Go.Sort Rw YtghlpefopidlaaaGreat.Nm Pr Bk
abbrev cAd (a b:Ad):Int:=nE a.id b.id
abbrev yB (a b:En):Int:=VI (nE a.tree b.tree) (nE a.sub b.sub)
abbrev cOw (a b:Ow):Int:=nE a.id b.id
def aj2 (b:Br):Bool:=uf qP b.near && (uf nE b.seen && (uf cAd b.dO && (uf yB b.ent && (uf cOw b.own && (b.dO.all (ahZ b) && (b.ent.all (zF b) && b.own.all (fun o=>Wr.iW o.p)))))))
theorem oh {α:Type} {c:α->α->Int} (ht:∀ x y z,c x y<0->c y z<0->c x z<0):∀ {l:List α},uf c l=U->l.Pairwise fun x y=>c x y<0
 | [],_=>List.Pairwise.nil
 | [x],_=>List.pairwise_singleton _ _
 | x::y::l,h=>by
  unfold uf at h;rw [aG] at h;have ih:=oh ht h.2;have hxy:c x y<0:=of_decide_eq_true h.1;refine Q.2 ⟨fun z hz=>?_,ih⟩;rcases aI.1 hz with rfl|hz
  ·exact hxy
  ·exact ht x y z hxy ((Q.1 ih).1 z hz)
theorem pX {x y:eU}:nE x y<0↔eH x y=U:=uY x y
theorem Ji (x y z:eU) (h1:nE x y<0) (h2:nE y z<0):nE x z<0:=pX.2 (iV (pX.1 h1) (pX.1 h2))
theorem Ut {l:List eU} (h:uf nE l=U):Ky l:=(oh Ji h).imp fun {_a _b} q=>pX.1 q
theorem Yj {l:List Ad} (h:uf cAd l=U):vF l:=(oh (fun x y z=>Ji x.id y.id z.id) h).imp fun {_a _b} q=>pX.1 q
theorem sj {α:Type} {c:α->α->Int}:∀ {l:List α},(l.Pairwise fun x y=>c x y<0)->uf c l=U
 | [],_=>rfl
 | [_],_=>rfl
 | x::y::l,h=>by
  have h1:=Q.1 h;unfold uf;rw [decide_eq_true (h1.1 y (by simp)),bM];exact sj h1.2
theorem acz (x y z:Int) (h1:qP x y<0) (h2:qP y z<0):qP x z<0:=by rw [uX] at *; omega
theorem qZ (a b:En):yB a b<0↔(eH a.tree b.tree=U\/(a.tree=b.tree/\eH a.sub b.sub=U)):=by
 unfold yB VI;by_cases h:nE a.tree b.tree=0
 ·rw [if_pos h,uY];have e:=(vX _ _).1 h;constructor
  ·exact fun q=>aP ⟨e,q⟩
  ·rintro (q|⟨_,q⟩)
   ·rw [e,jD] at q; cases q
   ·exact q
 ·rw [if_neg h,uY];constructor
  ·exact aQ
  ·rintro (q|⟨q,_⟩)
   ·exact q
   ·exact absurd ((vX _ _).2 q) h
theorem CY (x y z:En) (h1:yB x y<0) (h2:yB y z<0):yB x z<0:=by
 rw [qZ] at *;rcases h1 with h1|⟨e1,h1⟩ <;> rcases h2 with h2|⟨e2,h2⟩
 ·exact aQ (iV h1 h2)
 ·exact aQ (by rw [<- e2]; exact h1)
 ·exact aQ (by rw [e1]; exact h2)
 ·exact aP ⟨e1.trans e2,iV h1 h2⟩
structure iC (b:Br):Prop where
 near:b.near.Pairwise (·<·)
 seen:Ky b.seen
 dO:vF b.dO
 ent:b.ent.Pairwise fun x y=>yB x y<0
 own:kS Ow.id b.own
 oks:∀ a∈b.dO,a.id∈b.seen/\lT b.near a.par=U/\Wr.iW a.p=U
 QH:∀ e∈b.ent,zF b e=U
 oko:∀ o∈b.own,Wr.iW o.p=U
theorem CZ (b:Br):aj2 b=U↔iC b:=by
 unfold aj2;simp only [aG,aY];constructor
 ·rintro⟨h1,h2,h3,h4,h5,h6,h7,h8⟩;refine⟨(oh acz h1).imp fun {a b} q=>(uX a b).1 q,Ut h2,Yj h3,oh CY h4,(oh (fun x y z=>Ji x.id y.id z.id) h5).imp fun {a b} q=>pX.1 q,fun a ha=>?_,h7,h8⟩;have:=h6 a ha;unfold ahZ at this;simp only [aG,decide_eq_true_eq] at this;exact this
 ·rintro⟨h1,h2,h3,h4,h5,h6,h7,h8⟩;refine⟨sj (h1.imp fun {a b} q=>(uX a b).2 q),sj (h2.imp fun {a b} q=>pX.2 q),sj (h3.imp fun {a b} q=>pX.2 q),sj h4,sj (h5.imp fun {a b} q=>pX.2 q),fun a ha=>?_,h7,h8⟩;unfold ahZ;simp only [aG,decide_eq_true_eq];exact h6 a ha
theorem jM {α:Type} (l:List α) (k:Nat) (x y:α):y∈fM l k x↔y=x\/y∈l:=by
 unfold fM;rw [aK,aK,List.mem_singleton]
 conv=>rhs; rw [<- aO k l,aK]
 constructor
 ·rintro ((h|h)|h)
  ·exact aP (aQ h)
  ·exact aQ h
  ·exact aP (aP h)
 ·rintro (h|h|h)
  ·exact aQ (aP h)
  ·exact aQ (aQ h)
  ·exact aP h
theorem La {α:Type} (key:α->eU):∀ (l:List α) (x:eU),∀ y∈l.take (fJ key l x),eH (key y) x=U
 | [],_,y,h=>by simp at h
 | a::l,x,y,h=>by
  unfold fJ at h;by_cases ha:eH (key a) x=U
  ·simp only [aj,ha,if_true,aR,List.take_succ_cons,aI] at h;rcases h with rfl|h
   ·exact ha
   ·exact La key l x y h
  ·simp [ha] at h
theorem vI {α:Type} {key:α->eU}:∀ {l:List α} (_:kS key l) (x:eU) (_:∀ y∈l,key y≠x),∀ y∈l.drop (fJ key l x),eH x (key y)=U
 | [],_,_,_,y,h=>by simp at h
 | a::l,hr,x,hn,y,h=>by
  unfold fJ at h;have hr':=Q.1 hr;by_cases ha:eH (key a) x=U
  ·simp only [aj,ha,if_true,aR,List.drop_succ_cons] at h;exact vI hr'.2 x (fun y hy=>hn y (aS _ hy)) y h
  ·simp [ha] at h;have hax:eH x (key a)=U:=by
    rcases mW (key a) x with q|q|q
    ·exact absurd q ha
    ·exact absurd q (hn a (by simp))
    ·exact q
   rcases h with rfl|h
   ·exact hax
   ·exact iV hax (hr'.1 y h)
theorem kg {α:Type} {key:α->eU} {l:List α} (hr:kS key l) (x:α) (hn:∀ y∈l,key y≠key x):kS key (fM l (fJ key l (key x)) x):=by
 unfold fM;have h1:kS key (l.take (fJ key l (key x))):=hr.sublist (List.take_sublist _ _);have h2:kS key (l.drop (fJ key l (key x))):=hr.sublist (List.drop_sublist _ _);have lo:=La key l (key x);have hi:=vI hr (key x) hn;unfold kS at *;rw [aB,List.pairwise_append];refine⟨h1,?_,fun a ha b hb=>?_⟩
 ·rw [bG,Q];exact⟨fun b hb=>hi b hb,h2⟩
 ·rw [bG,aI] at hb;rcases hb with rfl|hb
  ·exact lo a ha
  ·exact iV (lo a ha) (hi b hb)
theorem om {l:List Ad} {x:eU} {a:Ad} (h:gJ l x=V a):a∈l/\a.id=x:=by
 unfold gJ at h;exact⟨List.mem_of_find?_eq_some h,by simpa using List.find?_some h⟩
theorem mU {l:List Ad} (hr:vF l) {a:Ad} (ha:a∈l):gJ l a.id=V a:=by
 obtain⟨k,hk⟩:=aC.1 ha;refine vB hk rfl fun j z hj hz e=>?_;have:=kU hr hj hz hk;rw [e,jD] at this;cases this
theorem Lb {l m:List Ad} (hl:vF l) (hm:vF m) {x:eU} (h:∀ a,a.id=x->(a∈l↔a∈m)):gJ l x=gJ m x:=by
 cases h1:gJ l x with
 | none =>
  cases h2:gJ m x with
  | none=>rfl
  | some a =>
   obtain⟨q1,q2⟩:=om h2;have:=mU hl ((h a q2).2 q1);rw [q2,h1] at this;cases this
 | some a =>
  obtain⟨q1,q2⟩:=om h1;have:=mU hm ((h a q2).1 q1);rw [q2] at this;exact this.symm
theorem tN {b c:Br} {e:En} (hn:c.near=b.near) (hf:gJ c.dO e.tree=gJ b.dO e.tree) (h:zF b e=U):zF c e=U:=by
 unfold zF at *;rw [hf,hn];exact h
theorem Lc {b:Br} (h:iC b) (a:Ad) (hp:lT b.near a.par=U) (hq:Wr.iW a.p=U):iC (fQ b a).1:=by
 by_cases hin:a.id∈b.seen
 ·rw [zu hin]; exact h
 ·rw [xA hin];have hna:∀ y∈b.dO,y.id≠a.id:=fun y hy e=>hin (by rw [<- e]; exact (h.oks y hy).1);have hns:∀ y∈b.seen,y≠a.id:=fun y hy e=>hin (by rw [<- e]; exact hy);have ra:vF (fM b.dO (fC (b.dO.map Ad.id) a.id) a):=by
   rw [<- iK];exact kg h.dO a hna
  have rs:Ky (fM b.seen (fC b.seen a.id) a.id):=by
   have:=kg (key:=fun x:eU=>x) h.seen a.id hns;rw [iK,List.map_id'] at this;exact this
  refine⟨h.near,rs,ra,h.ent,h.own,fun y hy=>?_,fun e he=>?_,h.oko⟩
  ·rcases (jM _ _ _ _).1 hy with rfl|hy
   ·exact⟨(jM _ _ _ _).2 (aQ rfl),hp,hq⟩
   ·exact⟨(jM _ _ _ _).2 (aP (h.oks y hy).1),(h.oks y hy).2⟩
  ·refine tN (b:=b) rfl (Lb ra h.dO fun y hy=>?_) (h.QH e he);rw [jM];refine⟨fun q=>q.resolve_left fun e2=>?_,aP⟩;have hk:=h.QH e he;unfold zF at hk;cases hf:gJ b.dO e.tree with
   | none=>rw [hf] at hk; cases hk
   | some z =>
    obtain⟨z1,z2⟩:=om hf;exact hna z z1 (by rw [z2,<- hy,e2])
theorem Uu {b:Br} (h:iC b) (x:eU) (f:Int):iC (wB b x f).1:=by
 unfold wB;cases gJ b.dO x with
 | none=>exact h
 | some a =>
  simp only
  split
  ·have ra:vF (b.dO.filter fun e=>decide (e.id≠x)):=h.dO.sublist bL;refine⟨h.near,h.seen,ra,h.ent.sublist bL,h.own,fun y hy=>h.oks y ((ay.1 hy).1),fun e he=>?_,h.oko⟩;have ht:e.tree≠x:=of_decide_eq_true (ay.1 he).2;refine tN (b:=b) rfl (Lb ra h.dO fun y hy=>?_) (h.QH e (ay.1 he).1);rw [ay];exact⟨fun q=>q.1,fun q=>⟨q,decide_eq_true (by rw [hy]; exact ht)⟩⟩
  ·exact h
end Av
namespace Sb
open Go.RowKit Go.Sort Rw YtghlpefopidlaaaGreat.Nm Pr Bk Av
abbrev jl (m:List En):Prop:=m.Pairwise fun x y=>yB x y<0
def jA (m:List En) (t:eU):Nat:=(m.takeWhile fun e=>eH e.tree t).length
def qN (m:List En) (t:eU):List En:=(m.drop (jA m t)).takeWhile fun e=>decide (e.tree=t)
def Fh (r:List En) (p:List C5):Bool:=r.any fun e=>e.up && oH e.p p
def mZ (s:List En×List En) (k:Nat):List En×List En:=match s.1[k]? with
 | none=>s
 | some e=>if e.up=U\/Fh s.1 e.p=U then s else (s.1.set k (Ez e),s.2++[Ez e])
def iL (r:List En) (k:Nat):List En×List En:=(List.range k).foldl mZ (r,[])
theorem oN (r:List En) (k:Nat):iL r (k+1)=mZ (iL r k) k:=by
 simp [iL,List.range_succ]
theorem yC:∀ (l:List eU) (x:eU),fO l x=jc l x
 | [],_=>rfl
 | a::l,x=>by rw [fO,jc,yC l x]
theorem lZ (x y:En):kC (dY x) (dY y)=U↔yB x y<0:=by
 rw [qZ];unfold kC;simp [pV]
theorem su (x:eU×eU):kC x x=aJ:=by simp [kC,jD]
def jQ (m:List En) (t s:eU):Bool:=match m[dZ (m.map dY) (t,s)]? with
 | none=>aJ
 | some e=>decide (dY e=(t,s))
theorem qp:∀ (l:List (eU×eU)) (x:eU×eU) (j:Nat) (y:eU×eU),j<dZ l x->l[j]?=V y->kC y x=U
 | [],_,_,_,_,h=>by simp at h
 | a::l,x,j,y,hj,h=>by
  unfold dZ at hj;by_cases ha:kC a x=U
  ·rw [aj,if_pos ha,aR] at hj;cases j with
   | zero=>rw [<- K (show V a=V y from h)]; exact ha
   | succ j=>exact qp l x j y (by unfold dZ; omega) (by simpa using h)
  ·rw [aj,if_neg ha] at hj;simp at hj
theorem zI:∀ (l:List (eU×eU)) (x y:eU×eU),l[dZ l x]?=V y->kC y x=aJ
 | [],_,_,h=>by simp [dZ] at h
 | a::l,x,y,h=>by
  unfold dZ at h;by_cases ha:kC a x=U
  ·rw [aj,if_pos ha,aR] at h;exact zI l x y (by unfold dZ; simpa using h)
  ·rw [aj,if_neg ha] at h;rw [<- K (show V a=V y from h)];simpa using ha
theorem tO {m:List En} (hr:jl m) (t s:eU):jc (m.map dY) (t,s)=if jQ m t s=U then (dZ (m.map dY) (t,s):Int) else -1:=by
 unfold jQ;cases hp:m[dZ (m.map dY) (t,s)]? with
 | none =>
  rw [if_neg (by simp)];refine xq _ _ fun j y hj e=>?_;have hl:m.length<=dZ (m.map dY) (t,s):=List.getElem?_eq_none_iff.1 hp;have hj2:=(D.1 hj).1;rw [List.length_map] at hj2;have h:=qp _ (t,s) j y (by omega) hj;rw [e,su] at h;cases h
 | some e =>
  have hpk:(m.map dY)[dZ (m.map dY) (t,s)]?=V (dY e):=by rw [ah,hp]; rfl
  by_cases he:dY e=(t,s)
  ·simp only [he,decide_true,if_true];rw [he] at hpk;refine Cr _ _ _ hpk fun j z hj hz q=>?_;have h:=qp _ (t,s) j z hj hz;rw [q,su] at h;cases h
  ·rw [if_neg (by simpa using he)];refine xq _ _ fun j y hj q=>?_;rcases Nat.lt_trichotomy j (dZ (m.map dY) (t,s)) with h|h|h
   ·have h:=qp _ (t,s) j y h hj;rw [q,su] at h;cases h
   ·subst h;rw [hpk] at hj;exact he ((K hj).trans q)
   ·rw [ah] at hj;cases hz:m[j]? with
    | none=>rw [hz] at hj; cases hj
    | some z =>
     rw [hz] at hj;have h1:=aV.1 hr _ _ (D.1 hp).1 (D.1 hz).1 h;rw [(D.1 hp).2,(D.1 hz).2,<- lZ] at h1;have h2:=zI _ _ _ hpk;rw [show dY z=(t,s) from (K hj).trans q] at h1;rw [h1] at h2;cases h2
theorem QI {x y:En} (h:yB x y<0):eH x.tree y.tree=U\/x.tree=y.tree:=by
 rcases (qZ x y).1 h with q|q
 ·exact aQ q
 ·exact aP q.1
theorem C8 {α:Type} (p:α->Bool):∀ l:List α,l.drop (l.takeWhile p).length=l.dropWhile p
 | []=>rfl
 | a::l=>by
  by_cases h:p a=U
  ·simp [h,C8 p l]
  ·simp [h]
theorem Oz:∀ {m:List En} (t:eU) (_:jl m),∀ e∈m.dropWhile (fun e=>eH e.tree t),eH e.tree t=aJ
 | [],_,_,e,h=>by simp at h
 | a::m,t,hr,e,h=>by
  have hr':=Q.1 hr;by_cases ha:eH a.tree t=U
  ·rw [aH,if_pos ha] at h;exact Oz t hr'.2 e h
  ·rw [aH,if_neg ha] at h;rcases aI.1 h with rfl|h
   ·simpa using ha
   ·cases hq:eH e.tree t with
    | false=>rfl
    | true =>
     exfalso;rcases QI (hr'.1 e h) with q|q
     ·exact ha (iV q hq)
     ·exact ha (by rw [q]; exact hq)
theorem Yk:∀ {m:List En} (t:eU) (_:jl m) (_:∀ e∈m,eH e.tree t=aJ),∀ e∈m.dropWhile (fun e=>decide (e.tree=t)),eH t e.tree=U
 | [],_,_,_,e,h=>by simp at h
 | a::m,t,hr,hl,e,h=>by
  have hr':=Q.1 hr;by_cases ha:a.tree=t
  ·rw [aH,if_pos (by simpa using ha)] at h;exact Yk t hr'.2 (fun e he=>hl e (aS _ he)) e h
  ·rw [aH,if_neg (by simpa using ha)] at h;have hta:eH t a.tree=U:=by
    rcases mW a.tree t with q|q|q
    ·rw [hl a (by simp)] at q; cases q
    ·exact absurd q ha
    ·exact q
   rcases aI.1 h with rfl|h
   ·exact hta
   ·rcases QI (hr'.1 e h) with q|q
    ·exact iV hta q
    ·rw [<- q]; exact hta
theorem QJ {x t:eU} (h:eH x t=U):x≠t:=by rintro rfl; rw [jD] at h; cases h
theorem Ld {m:List En} (hr:jl m) (t:eU):∃ c,m=m.take (jA m t)++qN m t++c/\(m.take (jA m t)).length=jA m t/\(∀ e∈m.take (jA m t),e.tree≠t)/\(∀ e∈qN m t,e.tree=t)/\(∀ e∈c,e.tree≠t):=by
 have e1:m.take (jA m t)=m.takeWhile fun e=>eH e.tree t:=by
  unfold jA
  conv=>lhs; arg 2; rw [<- aN (p:=fun e:En=>eH e.tree t) (l:=m)]
  rw [List.take_left]
 have e2:m.drop (jA m t)=m.dropWhile fun e=>eH e.tree t:=C8 _ _;refine⟨(m.drop (jA m t)).dropWhile fun e=>decide (e.tree=t),?_,?_,?_,?_,?_⟩
 ·unfold qN;rw [aB,aN,aO]
 ·rw [e1]; rfl
 ·rw [e1];intro e he;exact QJ (aY.1 bN e he)
 ·intro e he;unfold qN at he;exact of_decide_eq_true (aY.1 (bN (p:=fun e:En=>decide (e.tree=t))) e he)
 ·rw [e2];intro e he;have h1:jl (m.dropWhile fun e=>eH e.tree t):=hr.sublist (List.dropWhile_sublist _);exact (QJ (Yk t h1 (Oz t hr) e he)).symm
theorem Le {α:Type} {p:α->Bool} {l:List α} (h:∀ e∈l,p e=aJ):l.filter p=[]:=by
 rw [List.filter_eq_nil_iff];intro e he;rw [h e he];simp
theorem Uv {m:List En} (hr:jl m) (t:eU):qN m t=m.filter fun e=>decide (e.tree=t):=by
 obtain⟨c,h1,_,h2,h3,h4⟩:=Ld hr t;generalize qN m t=r at *;generalize m.take (jA m t)=a at *;subst h1;rw [bO,bO,Le (l:=a) fun e he=>by simpa using h2 e he,Le (l:=c) fun e he=>by simpa using h4 e he,List.nil_append,List.append_nil];exact (List.filter_eq_self.2 fun e he=>by simpa using h3 e he).symm
theorem ah1 {m:List En} (hr:jl m) (t:eU) (p:List C5):Fh (qN m t) p=fA m t p:=by
 rw [Uv hr,Fh,List.any_filter]
 rfl
theorem acB {a r c:List En} {t:eU} (ha:∀ e∈a,e.tree≠t) (hr:∀ e∈r,e.tree=t) (hc:∀ e∈c,e.tree≠t) (p:List C5):fA (a++r++c) t p=Fh r p:=by
 have none_:∀ l:List En,(∀ e∈l,e.tree≠t)->l.any (CJ t p)=aJ:=fun l hl=>by
  rw [List.any_eq_false];intro e he;unfold CJ;rw [decide_eq_false (hl e he)];simp
 unfold fA Fh;rw [bU,bU,none_ a ha,none_ c hc,Bool.false_or,Bool.or_false]
 induction r with
 | nil=>rfl
 | cons x r ih =>
  rw [bV,bV,ih fun e he=>hr e (aS _ he)]
  congr 1
  unfold CJ;rw [decide_eq_true (hr x (by simp)),bM]
theorem C9 (s:List En×List En) (k:Nat):(mZ s k).1.map dY=s.1.map dY:=by
 unfold mZ
 split
 ·rfl
 ·rename_i e he
  split
  ·rfl
  ·rw [List.map_set];refine List.ext_getElem? fun j=>?_;rw [bR]
   split
   ·rename_i hj
    subst hj
    split
    ·rw [ah,he]
     rfl
    ·rename_i hl
     rw [bH (by simpa using hl)]
   ·rfl
theorem vJ (r:List En):∀ k,(iL r k).1.map dY=r.map dY
 | 0=>rfl
 | k+1=>by rw [oN,C9,vJ r k]
theorem xB (r:List En) (k:Nat):(iL r k).1.length=r.length:=by
 have h:=congrArg List.length (vJ r k);simpa using h
theorem G9 (r:List En):∀ k,(iL r k).2.length<=k
 | 0=>aD _
 | k+1=>by
  have ih:=G9 r k;rw [oN];unfold mZ
  split
  ·omega
  ·split
   ·omega
   ·simp; omega
theorem Uw {r r':List En} {t:eU} (h:r'.map dY=r.map dY) (hr:∀ e∈r,e.tree=t):∀ e∈r',e.tree=t:=by
 intro e he;have h1:dY e∈r.map dY:=by rw [<- h]; exact bY.2 ⟨e,he,rfl⟩
 obtain⟨z,hz,hk⟩:=bY.1 h1;rw [<- show z.tree=e.tree from congrArg Prod.fst hk];exact hr z hz
theorem OH {a r c:List En} {t:eU} (ha:∀ e∈a,e.tree≠t) (hr:∀ e∈r,e.tree=t) (hc:∀ e∈c,e.tree≠t):iN t (a++r++c) (a++r++c).length=(a++(iL r r.length).1++c,(iL r r.length).2):=by
 have s1:∀ k,k<=a.length->iN t (a++r++c) k=(a++r++c,[]):=by
  intro k
  induction k with
  | zero=>intro _; rfl
  | succ k ih =>
   intro hk;rw [kF,ih (by omega)];unfold iH;have e1:(a++r++c)[k]?=V a[k]:=by rw [aB,aW (by omega),J (by omega)]
   rw [e1];simp only;rw [if_neg fun h=>ha _ (aZ _) h.1]
 have s2:∀ j,j<=r.length->iN t (a++r++c) (a.length+j)=(a++(iL r j).1++c,(iL r j).2):=by
  intro j
  induction j with
  | zero=>intro _; rw [bZ,s1 _ (aD _)]; rfl
  | succ j ih =>
   intro hj;have hl:=xB r j;have hk:=Uw (vJ r j) hr;rw [<- bW,kF,ih (by omega),oN];generalize iL r j=s at *;obtain⟨r',u⟩:=s;simp only at hl hk ⊢;unfold iH mZ;have e1:(a++r'++c)[a.length+j]?=r'[j]?:=by rw [aB,aU (by omega),aM,aW (by omega)]
   simp only [e1];rw [J (show j<r'.length by omega)];simp only;have ht:=hk _ (aZ (show j<r'.length by omega));rw [acB ha hk hc];by_cases h1:(r'[j]'(by omega)).up=U\/Fh r' (r'[j]'(by omega)).p=U
   ·rw [if_pos h1,if_neg];rintro⟨_,g2,g3⟩;rcases h1 with h1|h1
    ·rw [h1] at g2; cases g2
    ·rw [h1] at g3; cases g3
   ·rw [if_neg h1,if_pos ⟨ht,by simpa using fun q=>h1 (aQ q),by simpa using fun q=>h1 (aP q)⟩];have e2:(a++r'++c).set (a.length+j) (Ez (r'[j]'(by omega)))=a++r'.set j (Ez (r'[j]'(by omega)))++c:=by
     rw [aB,List.set_append_right _ _ (by omega),aM,List.set_append_left _ _ (by omega),aB]
    rw [e2]
 have s3:∀ j,j<=c.length->iN t (a++r++c) (a.length+r.length+j)=(a++(iL r r.length).1++c,(iL r r.length).2):=by
  intro j
  induction j with
  | zero=>intro _; rw [bZ,s2 _ (aD _)]
  | succ j ih =>
   intro hj;have hl:=xB r r.length;rw [<- bW,kF,ih (by omega)];unfold iH;have e1:(a++(iL r r.length).1++c)[a.length+r.length+j]?=V (c[j]'(by omega)):=by
    rw [aU (by rw [aL,hl]; omega),aL,hl,aM,J (by omega)]
   rw [e1];simp only;rw [if_neg fun h=>hc _ (aZ _) h.1]
 have h:=s3 c.length (aD _);rw [aL,aL];exact h
def ig (b:Br):Prop:=∀ a∈b.dO,a.par≠-1->∀ e∈b.ent,e.tree=a.id->e.up=aJ->fA b.ent a.id e.p=U
theorem mO (m:List En) (t:eU) (p:List C5):fA m t p=U↔∃ e∈m,e.tree=t/\e.up=U/\oH e.p p=U:=by
 unfold fA;rw [List.any_eq_true];simp [CJ]
theorem Lf {b:Br} (h:iC b) (a:Ad) (ht:ig b):ig (fQ b a).1:=by
 by_cases hin:a.id∈b.seen
 ·rw [zu hin]; exact ht
 ·rw [xA hin];intro y hy hp e he hte hu;rcases (jM _ _ _ _).1 hy with rfl|hy
  ·exfalso;have hk:=h.QH e he;unfold zF at hk;cases hf:gJ b.dO e.tree with
   | none=>rw [hf] at hk; cases hk
   | some z =>
    obtain⟨z1,z2⟩:=om hf;exact hin (by rw [<- hte,<- z2]; exact (h.oks z z1).1)
  ·exact ht y hy hp e he hte hu
theorem Jj {b:Br} (x:eU) (f:Int) (ht:ig b):ig (wB b x f).1:=by
 unfold wB;cases gJ b.dO x with
 | none=>exact ht
 | some a =>
  simp only
  split
  ·intro y hy hp e he hte hu;have hy':=ay.1 hy;have he':=ay.1 he;obtain⟨z,h1,h2,h3,h4⟩:=(mO _ _ _).1 (ht y hy'.1 hp e he'.1 hte hu);refine (mO _ _ _).2 ⟨z,ay.2 ⟨h1,?_⟩,h2,h3,h4⟩;rw [h2];exact hy'.2
  ·exact ht
theorem He {b:Br} (h:iC b) (e:En) (ht:ig b):ig (iB b e).1:=by
 unfold iB
 split
 ·exact ht
 ·rename_i a ha
  split
  ·exact ht
  ·rename_i h1
   split
   ·exact ht
   ·split
    ·exact ht
    ·have hid:a.id=e.tree:=by
      rcases mH (b.dO.map Ad.id) e.tree with q|⟨k,q,r⟩
      ·exact absurd (yC _ _ ▸ q) h1
      ·rw [yC,q,Int.toNat_natCast] at ha;rw [ah,ha] at r;exact K r
     have hA:a∈b.dO:=List.mem_of_getElem? ha;intro y hy hp z hz hte hu;have more:∀ p,fA b.ent y.id p=U->fA (fM b.ent (dZ (b.ent.map dY) (dY e)) { e with up:=decide (a.par≠-1) && !fA b.ent e.tree e.p }) y.id p=U:=fun p hp=>by
      obtain⟨q,q1,q2⟩:=(mO _ _ _).1 hp;exact (mO _ _ _).2 ⟨q,(jM _ _ _ _).2 (aP q1),q2⟩
     rcases (jM _ _ _ _).1 hz with rfl|hz
     ·have hya:y=a:=by
       have g1:=mU h.dO hA;have g2:=mU h.dO hy;rw [show y.id=a.id from hte.symm.trans hid.symm,g1] at g2;exact (K g2).symm
      have hu':(decide (a.par≠-1) && !fA b.ent e.tree e.p)=aJ:=hu;rw [<- hya,decide_eq_true hp,bM] at hu';refine more _ ?_;rw [<- show e.tree=y.id from hte];simpa using hu'
     ·exact more _ (ht y hy hp z hz hte hu)
theorem Da {α:Type} {l:List α} {k:Nat} {x y:α} (hk:l[k]?=V x) (hy:y∈l):y=x\/y∈cutAt l k:=by
 have hlt:=(D.1 hk).1;have e:l=l.take k++x::l.drop (k+1):=by
  conv=>lhs; rw [<- aO k l]
  rw [List.drop_eq_getElem_cons hlt,(D.1 hk).2]
 rw [e] at hy;unfold cutAt;rcases aK.1 hy with h|h
 ·exact aP (List.mem_append_left _ h)
 ·rcases aI.1 h with h|h
  ·exact aQ h
  ·exact aP (List.mem_append_right _ h)
theorem QK {α:Type} {l:List α} {k:Nat} {y:α} (h:y∈cutAt l k):y∈l:=by
 unfold cutAt at h;rcases aK.1 h with h|h
 ·exact List.mem_of_mem_take h
 ·exact List.mem_of_mem_drop h
theorem acC {α:Type} {l:List α} {k:Nat} {x y z:α} (hk:l[k]?=V x) (hz:z∈l):z=x\/z∈l.set k y:=by
 obtain⟨j,hj⟩:=aC.1 hz;by_cases hjk:k=j
 ·subst hjk;rw [hk] at hj;exact aQ (K hj).symm
 ·right;refine aC.2 ⟨j,?_⟩;rw [List.getElem?_set_ne hjk];exact hj
theorem Lg {t:eU} {s:List En×List En} {k:Nat} (u:eU) (p:List C5) (h:fA s.1 u p=U):fA (iH t s k).1 u p=U:=by
 unfold iH
 split
 ·exact h
 ·rename_i e he
  split
  ·obtain⟨z,h1,h2,h3,h4⟩:=(mO _ _ _).1 h;rcases acC (y:=Ez e) he h1 with rfl|h5
   ·rename_i hq
    rw [hq.2.1] at h3;cases h3
   ·exact (mO _ _ _).2 ⟨z,h5,h2,h3,h4⟩
  ·exact h
theorem Hf (t:eU) (m:List En):∀ k,k<=m.length->(∀ j,j<k->∀ e,(iN t m k).1[j]?=V e->e.tree=t->e.up=aJ->fA (iN t m k).1 t e.p=U)/\(∀ u p,fA m u p=U->fA (iN t m k).1 u p=U)/\(∀ e,e∈(iN t m k).1->e.tree≠t->e∈m)
 | 0,_=>⟨fun j hj=>absurd hj (Nat.not_lt_zero _),fun _ _ h=>h,fun _ h _=>h⟩
 | k+1,hk=>by
  obtain⟨h1,h2,h3⟩:=Hf t m k (by omega);rw [kF];refine⟨fun j hj e he htr hu=>?_,fun u p h=>Lg u p (h2 u p h),fun e he hne=>?_⟩
  ·have hl:=(qm t m k).1;generalize iN t m k=s at *;obtain⟨z,hz⟩:∃ z,s.1[k]?=V z:=⟨_,J (by omega)⟩;by_cases hc:z.tree=t/\z.up=aJ/\fA s.1 t z.p=aJ
   ·have e1:iH t s k=(s.1.set k (Ez z),s.2++[Ez z]):=by unfold iH; rw [hz]; simp only; rw [if_pos hc]
    have mono:=Lg (t:=t) (s:=s) (k:=k) t;rw [e1] at he mono ⊢;rw [bR] at he
    split at he
    ·split at he
     ·rw [<- K he] at hu;cases hu
     ·cases he
    ·exact mono _ (h1 j (by omega) e he htr hu)
   ·have e1:iH t s k=s:=by unfold iH; rw [hz]; simp only; rw [if_neg hc]
    rw [e1] at he ⊢;rcases bF j k with h0|h0
    ·exact h1 j h0 e he htr hu
    ·obtain rfl:j=k:=by omega
     rw [hz] at he;obtain rfl:=K he;cases hv:fA s.1 t z.p with
     | true=>rfl
     | false=>exact absurd ⟨htr,hu,hv⟩ hc
  ·unfold iH at he
   split at he
   ·exact h3 e he hne
   ·rename_i z hz
    split at he
    ·rename_i hq
     rcases List.mem_or_eq_of_mem_set he with h5|h5
     ·exact h3 e h5 hne
     ·rw [h5] at hne;exact absurd hq.1 hne
    ·exact h3 e he hne
theorem Db {b:Br} (t x:eU) (f:Int) (ht:ig b):ig (takeB b t x f).1:=by
 unfold takeB
 split
 ·exact ht
 ·rename_i e0 he0
  split
  ·exact ht
  ·rename_i h1
   split
   ·exact ht
   ·have h5:e0.tree=t:=by
     rcases mH (b.ent.map dY) (t,x) with q|⟨k,q,r⟩
     ·exact absurd q h1
     ·rw [q,Int.toNat_natCast] at he0;rw [ah,he0] at r;exact congrArg Prod.fst (K r)
    generalize (jc (b.ent.map dY) (t,x)).toNat=k at *
    split
    ·rename_i hup
     intro y hy hp z hz hte hu;obtain⟨q,q1,q2,q3,q4⟩:=(mO _ _ _).1 (ht y hy hp z (QK hz) hte hu);refine (mO _ _ _).2 ⟨q,(Da he0 q1).resolve_left ?_,q2,q3,q4⟩;rintro rfl;rw [hup] at q3;cases q3
    ·intro y hy hp z hz hte hu;obtain⟨g1,g2,g3⟩:=Hf t (cutAt b.ent k) (cutAt b.ent k).length (aD _);by_cases hyt:y.id=t
     ·obtain⟨j,hj⟩:=aC.1 hz;have hlt:=(D.1 hj).1;rw [(qm t (cutAt b.ent k) _).1] at hlt;rw [hyt] at hte ⊢;exact g1 j hlt z hj hte hu
     ·have hzt:z.tree≠t:=by rw [hte]; exact hyt
      obtain⟨q,q1,q2,q3,q4⟩:=(mO _ _ _).1 (ht y hy hp z (QK (g3 z hz hzt)) hte hu);refine g2 _ _ ((mO _ _ _).2 ⟨q,(Da he0 q1).resolve_left ?_,q2,q3,q4⟩);rintro rfl;exact hyt (q2.symm.trans h5)
theorem Ux (x:jk) (t s:eU) (r:Bool) (hr:kC (jG x) (t,s)=r) (w:World):Calls aA 137 #[qO x,nC t,nC s] w fun e w'=>e=O (bf r)/\Below w.heap.size w w':=by
 obtain⟨y1,y2,y3,y4,⟨yo,yn,yc⟩,y6,y7⟩:=x;obtain⟨c,d⟩:=t;obtain⟨g,h⟩:=s;obtain⟨h0,X,Y,Z⟩:=gT w #[ak au y1,ak au y2,ak au y3,ak au y4,aT yo yn yc,ak au y6,bf y7] #[ak au c,ak au d] #[ak au g,ak au h] 67 23 23;have x1:=X.cell 1;have x0:=X.cell 0;have x2:=X.cell 2;have x3:=X.cell 3;obtain⟨c0,c1⟩:=Y.cs2;obtain⟨d0,d1⟩:=Z.cs2;simp only [bI,bg,List.getElem?_cons_succ] at x0 x1 x2 x3;have C1:=vY (y1,y2) (c,d);have C2:=vY (y3,y4) (g,h);have B:=L h0;have he:kC ((y1,y2),(y3,y4)) ((c,d),(g,h))=if ((y1,y2):eU)=(c,d) then eH (y3,y4) (g,h) else eH (y1,y2) (c,d):=by
  unfold kC;by_cases q:((y1,y2):eU)=(c,d)
  ·rw [if_pos q,q,jD,(pV _ _).2 rfl]; rfl
  ·rw [if_neg q,bS.2 fun q2=>q ((pV _ _).1 q2)]; simp
 clear h0 X Y Z;by_cases q:((y1,y2):eU)=(c,d)
 ·have hr2:=L (show eH (y3,y4) (g,h)=r by rw [<- hr]; show _=kC ((y1,y2),(y3,y4)) ((c,d),(g,h)); rw [he,if_pos q]);obtain⟨rfl,rfl⟩:y1=c/\y2=d:=by simpa using q
  have hne:=WT y1 y2 y1 y2 aJ (by simp);clear he hr q;go_enter cu,bX;go_wp2_with fail;refine (C2 _).mono ?_;rintro e w1 ⟨rfl,hb⟩;go_wp2;go_ret;exact⟨congrArg (fun b=>O (bf b)) hr2.out,B.out.trans (hb.mono B.out.size)⟩
 ·have hr2:=L (show eH (y1,y2) (c,d)=r by rw [<- hr]; show _=kC ((y1,y2),(y3,y4)) ((c,d),(g,h)); rw [he,if_neg q]);have hne:=WT y1 y2 c d U (by rw [show (y1 == c && y2 == d)=aJ from bS.2 fun h=>q (by simp at h; rw [h.1,h.2])]; rfl);clear he hr q;go_enter cu,bX;go_wp2_with fail;refine (C1 _).mono ?_;rintro e w1 ⟨rfl,hb⟩;go_wp2;go_ret;exact⟨congrArg (fun b=>O (bf b)) hr2.out,B.out.trans (hb.mono B.out.size)⟩
theorem xC (g:Nat) (cb:Array Value) (eg:∀ args w,(callFunc g args).run aA w=.ok (.enter g args) w) (n k:Nat) (p:Nat->Bool) (w:World) (hn:n<=1000000)
  (hf:∀ i,i<n->∀ W,Below w.heap.size w W->Calls aA g (#[ak au i]++cb) W fun e w'=>e=O (bf (p i))/\Below W.heap.size W w')
  (hk:k<=n) (hlo:∀ i,i<k->p i=aJ) (hhi:∀ i,k<=i->i<n->p i=U) :
  Calls aA 110 #[ak au n,.func (.func g) #[] cb] w fun e w'=>e=O (ak au k)/\Below w.heap.size w w':=by
 have HF:=L hf;have LO:=L hlo;have HI:=L hhi;clear hf hlo hhi;go_enter Tryz.func110,Tryz.ntmps110;go_wp2
 go_loopg [5,6] n (fun kx s5 s6 wr=>∃ lo hi:Nat,s5=ak au lo/\s6=ak au hi/\lo<=k/\k<=hi/\hi<=n/\hi-lo<=kx/\Below w.heap.size w wr)
 case atStart=>exact⟨0,n,rfl,rfl,Nat.zero_le _,hk,aD _,by omega,Below.refl _ _⟩
 case round =>
  obtain⟨lo,hi,rfl,rfl,hlk,hkh,hin,hg,hb⟩:=hrel;have B:=L hb;clear hb;by_cases hlt:lo<hi
  ·have hc:=HF.out ((lo+hi) / 2) (by omega) wr B.out;rw [show (((lo+hi) / 2:Nat):Int)=((lo:Int)+(hi:Int)) / 2 by omega] at hc;cases hp:p ((lo+hi) / 2) <;> rw [hp] at hc
   ·have HP:=L hp;have HK:=L (show (lo+hi) / 2+1<=k from by
     rcases bF ((lo+hi) / 2) k with h|h
     ·exact h
     ·have:=HI.out _ h (by omega); rw [hp] at this; cases this)
    clear hp;go_wp2_with (go_at_fn g; refine hc.mono ?_; rintro e w' ⟨rfl,hb2⟩)
    go_roundg (hi-((lo+hi) / 2+1))
    case measure=>omega
    case rel=>exact⟨(lo+hi) / 2+1,hi,by rw [show ((lo:Int)+(hi:Int)) / 2+1=(((lo+hi) / 2+1:Nat):Int) by omega],rfl,HK.out,hkh,hin,aD _,B.out.trans (hb2.mono B.out.size)⟩
   ·have HP:=L hp;have HK:=L (show k<=(lo+hi) / 2 from by
     rcases bF ((lo+hi) / 2) k with h|h
     ·have:=LO.out _ h; rw [hp] at this; cases this
     ·exact h)
    clear hp;go_wp2_with (go_at_fn g; refine hc.mono ?_; rintro e w' ⟨rfl,hb2⟩)
    go_roundg ((lo+hi) / 2-lo)
    case measure=>omega
    case rel=>exact⟨lo,(lo+hi) / 2,rfl,by rw [show ((lo:Int)+(hi:Int)) / 2=(((lo+hi) / 2:Nat):Int) by omega],hlk,HK.out,by omega,aD _,B.out.trans (hb2.mono B.out.size)⟩
  ·obtain rfl:hi=lo:=by omega
   obtain rfl:hi=k:=by omega
   go_wp2;go_ret;exact⟨rfl,B.out⟩
theorem Dc {W W1:World} {v:Value} {l:List jk} {ao:Option Addr} {n c k:Nat} {x:jk} (h:mh W v l) (hv:v=aT ao n c) (hn:l.length=n) (hk:l[k]?=V x) (hb:Below W.heap.size W W1) :
  ∃ p:Addr,(∀ w,(Instr.indexAt 27 (aT ao n c) (ak au k)).run aA w=.ok (aF (V p)) w) /\
   (∀ d os,(grow (redrawn W1 d) os).cell? p=V (ak au x.1))/\(∀ d os,(grow (redrawn W1 d) os).cell? ⟨p.block,p.off+1,aX⟩=V (ak au x.2.1)) /\
   (∀ d os,(grow (redrawn W1 d) os).cell? ⟨p.block,p.off+2,aX⟩=V (ak au x.2.2.1))/\(∀ d os,(grow (redrawn W1 d) os).cell? ⟨p.block,p.off+3,aX⟩=V (ak au x.2.2.2.1)) /\
   (∀ d os,(grow (redrawn W1 d) os).cell? ⟨p.block,p.off+4,aX⟩=V (dX x.2.2.2.2.1))/\(∀ d os,(grow (redrawn W1 d) os).cell? ⟨p.block,p.off+5,aX⟩=V (ak au x.2.2.2.2.2.1)) /\
   (∀ d os,(grow (redrawn W1 d) os).cell? ⟨p.block,p.off+6,aX⟩=V (bf x.2.2.2.2.2.2)):=by
 obtain⟨p,h1,h2⟩:=P8 h hv hn hk;obtain⟨c0,c1,c2,c3,c4,c5,c6⟩:=h2 _ hb;exact⟨p,h1,cell_regrown c0,cell_regrown c1,cell_regrown c2,cell_regrown c3,cell_regrown c4,cell_regrown c5,cell_regrown c6⟩
theorem acD (args:Array Value) (w:World):(callFunc 136 args).run aA w=.ok (.enter 136 args) w:=fV cB rfl rfl args w
theorem acE (args:Array Value) (w:World):(callFunc 132 args).run aA w=.ok (.enter 132 args) w:=fV cK rfl rfl args w
theorem acF (i:Nat) (b1 b2 b3:Nat) (ao:Option Addr) (n ac:Nat) (l:List jk) (t s:eU) (y:jk) (r:Bool) (w:World) (hv:mh w (aT ao n ac) l) (hn:l.length=n) (hy:l[i]?=V y) (hr:(!kC (jG y) (t,s))=r)
  (h1:dK w b1 #[aT ao n ac] 27) (h2:dK w b2 #[ak au t.1,ak au t.2] 23) (h3:dK w b3 #[ak au s.1,ak au s.2] 23) :
  Calls aA 136 #[ak au i,aF (V ⟨b1,0,aX⟩),aF (V ⟨b2,0,aX⟩),aF (V ⟨b3,0,aX⟩)] w fun e w'=>e=O (bf r)/\Below w.heap.size w w':=by
 obtain⟨p,ix,p0,p1,p2,p3,p4,p5,p6⟩:=Dc hv rfl hn hy (Below.refl _ _);have a0:=cell_regrown (h1.cell 0);have b0:=cell_regrown (h2.cell 0);have b1':=cell_regrown (h2.cell 1);have c0:=cell_regrown (h3.cell 0);have c1:=cell_regrown (h3.cell 1);obtain⟨q,hq⟩:∃ q,kC (jG y) (t,s)=q:=⟨_,rfl⟩;have C:∀ k os,Calls aA 137 #[qO y,nC t,nC s] (grow (redrawn w k) os) fun e w''=>e=O (bf q)/\∃ p:Regrown,w''=grow (redrawn w p.d) p.os:=fun k os=>Calls.regrown_of (Ux y t s q hq _);rw [hq] at hr;have R:=L hr;have BN:=L (fun dq osq=>below_regrown w dq osq);obtain⟨y1,y2,y3,y4,⟨yo,yn,yc⟩,y6,y7⟩:=y;obtain⟨c,d⟩:=t;obtain⟨g,h⟩:=s;simp only at p0 p1 p2 p3 p4 p5 p6 b0 b1' c0 c1 C;clear hv hn hy hr hq h1 h2 h3;go_enter cB,Tryz.ntmps136;go_wp2;refine wp_region_quiet_below (by kernel_rfl) (by kernel_rfl) ?_
 repeat (go_big_quiet_step (first | (with_reducible exact C _ _) | exact ah2 _ _))
 refine wpQuiet_nil ?_;intro _ hw';obtain⟨⟨dq,osq⟩,hw''⟩:=hw';subst hw'';go_wp2;go_ret;exact⟨congrArg (fun b=>O (bf b)) R.out,BN.out _ _⟩
theorem acG (i:Nat) (b1 b2:Nat) (ao:Option Addr) (n ac:Nat) (l:List jk) (t:eU) (y:jk) (r:Bool) (w:World) (hv:mh w (aT ao n ac) l) (hn:l.length=n) (hy:l[i]?=V y) (hr:(!eH (y.1,y.2.1) t)=r)
  (h1:dK w b1 #[aT ao n ac] 27) (h2:dK w b2 #[ak au t.1,ak au t.2] 23) :
  Calls aA 132 #[ak au i,aF (V ⟨b1,0,aX⟩),aF (V ⟨b2,0,aX⟩)] w fun e w'=>e=O (bf r)/\Below w.heap.size w w':=by
 obtain⟨p,ix,p0,p1,p2,p3,p4,p5,p6⟩:=Dc hv rfl hn hy (Below.refl _ _);have a0:=cell_regrown (h1.cell 0);have b0:=cell_regrown (h2.cell 0);have b1':=cell_regrown (h2.cell 1);have C:∀ k os,Calls aA 31 #[nC (y.1,y.2.1),nC t] (grow (redrawn w k) os) fun e w''=>e=O (bf (eH (y.1,y.2.1) t))/\∃ p:Regrown,w''=grow (redrawn w p.d) p.os:=fun k os=>Calls.regrown_of (vY (y.1,y.2.1) t _);generalize eH (y.1,y.2.1) t=q at *;have R:=L hr;have BN:=L (fun dq osq=>below_regrown w dq osq);obtain⟨y1,y2,y3,y4,⟨yo,yn,yc⟩,y6,y7⟩:=y;obtain⟨c,d⟩:=t;simp only at p0 p1 p2 p3 p4 p5 p6 b0 b1' C;clear hv hn hy hr h1 h2 p2 p3 p4 p5 p6;go_enter cK,Tryz.ntmps132;go_wp2;refine wp_region_quiet_below (by kernel_rfl) (by kernel_rfl) ?_
 repeat (go_big_quiet_step (first | (with_reducible exact C _ _) | exact Uy _ _))
 refine wpQuiet_nil ?_;intro _ hw';obtain⟨⟨dq,osq⟩,hw''⟩:=hw';subst hw'';go_wp2;go_ret;exact⟨congrArg (fun b=>O (bf b)) R.out,BN.out _ _⟩
theorem iX {α:Type} {E:Ek α} {W:World} {so:Option Addr} {sn sc:Nat} {l:List α} (h:Row E W (aT so sn sc) l):l.length=sn:=by
 obtain⟨ao,ac,hv⟩:=h.len;simp at hv;exact hv.2.1.symm
theorem oO {W:World} {l:List jk} {m:List En} (h:eY (jJ W) l m) {i:Nat} {y:jk} (hy:l[i]?=V y):∃ e,m[i]?=V e/\jG y=dY e/\jJ W y e:=by
 have hlt:=(D.1 hy).1;obtain⟨e,he⟩:∃ e,m[i]?=V e:=⟨_,J (by rw [<- h.len]; exact hlt)⟩;obtain⟨y',hy',hx⟩:=h.at i e he;rw [hy] at hy';obtain rfl:=K hy';exact⟨e,he,Prod.ext hx.1 hx.2.1,hx⟩
theorem zJ {m:List En} (hr:jl m) {i j:Nat} {x y:En} (hij:i<j) (hx:m[i]?=V x) (hy:m[j]?=V y):yB x y<0:=by
 obtain⟨h1,rfl⟩:=D.1 hx;obtain⟨h2,rfl⟩:=D.1 hy;exact aV.1 hr i j h1 h2 hij
theorem nG (l:List (eU×eU)) (x:eU×eU):dZ l x<=l.length:=(List.takeWhile_sublist _).length_le
theorem vI {m:List En} (hr:jl m) (x:eU×eU) {i:Nat} {e:En} (hi:dZ (m.map dY) x<=i) (he:m[i]?=V e):kC (dY e) x=aJ:=by
 have hlt:=(D.1 he).1;obtain⟨z,hz⟩:∃ z,m[dZ (m.map dY) x]?=V z:=⟨_,J (by omega)⟩;have h0:=zI (m.map dY) x (dY z) (by rw [ah,hz]; rfl);rcases bF (dZ (m.map dY) x) i with h|h
 ·have h1:=zJ hr h hz he;cases hq:kC (dY e) x with
  | false=>rfl
  | true =>
   rw [<- lZ] at h1;have h2:yB z ⟨x.1,x.2,[],0,aJ⟩<0:=CY z e ⟨x.1,x.2,[],0,aJ⟩ ((lZ z e).1 h1) ((lZ e ⟨x.1,x.2,[],0,aJ⟩).1 hq);rw [<- lZ] at h2;rw [show kC (dY z) x=U from h2] at h0;cases h0
 ·have e1:i=dZ (m.map dY) x:=by omega
  rw [e1,hz] at he;rw [<- K he];exact h0
theorem zK (v:Sl) (l:List jk) (m:List En) (t s:eU) (w:World) (hv:mh w (dX v) l) (hA:eY (jJ w) l m) (hr:jl m) (hl:l.length<=1000) :
  Calls aA 89 #[dX v,nC t,nC s] w fun e w'=>e=O (.tuple #[ak au (dZ (m.map dY) (t,s)),bf (jQ m t s)])/\Below w.heap.size w w':=by
 obtain⟨so,n,sc⟩:=v;have hn:l.length=n:=iX hv;obtain⟨c,d⟩:=t;obtain⟨g,h⟩:=s;obtain⟨k,hk⟩:∃ k,dZ (m.map dY) ((c,d),(g,h))=k:=⟨_,rfl⟩;obtain⟨th,hth⟩:∃ k,jQ m (c,d) (g,h)=k:=⟨_,rfl⟩;have hkn:k<=n:=by rw [<- hk,<- hn,hA.len]; simpa using nG (m.map dY) ((c,d),(g,h))
 rw [hk,hth];obtain⟨h0,X,Y,Z⟩:=gT w #[aT so n sc] #[ak au c,ak au d] #[ak au g,ak au h] 27 23 23;have BB:=L h0;have HV:=L (hv.on h0);have HA:=L (hA.mono fun _ _ q=>q.on h0);have X1:=L X;have Y1:=L Y;have Z1:=L Z;have x0:=X.cell 0;simp only [bI,bg] at x0;have HF:=L (show ∀ i,i<n->∀ W,Below (((w.alloc (bK #[aT so n sc] 27)).alloc (bK #[ak au c,ak au d] 23)).alloc (bK #[ak au g,ak au h] 23)).heap.size (((w.alloc (bK #[aT so n sc] 27)).alloc (bK #[ak au c,ak au d] 23)).alloc (bK #[ak au g,ak au h] 23)) W ->
   Calls aA 136 (#[ak au i]++#[aF (V ⟨w.heap.size,0,aX⟩),aF (V ⟨w.heap.size+1,0,aX⟩),aF (V ⟨w.heap.size+1+1,0,aX⟩)]) W fun e w'=>e=O (bf ((fun i=>match l[i]? with | some y=>!kC (jG y) ((c,d),(g,h)) | none=>U) i))/\Below W.heap.size W w' from fun i hi W hb=>by
  obtain⟨y,hy⟩:∃ y,l[i]?=V y:=⟨_,J (by omega)⟩;refine acF i _ _ _ so n sc l (c,d) (g,h) y _ W (HV.out.on hb) hn hy ?_ (X1.out.on hb) (Y1.out.on hb) (Z1.out.on hb);simp only [hy])
 have HLO:=L (show ∀ i,i<k->(fun i=>match l[i]? with | some y=>!kC (jG y) ((c,d),(g,h)) | none=>U) i=aJ from fun i hi=>by
  obtain⟨y,hy⟩:∃ y,l[i]?=V y:=⟨_,J (by omega)⟩;obtain⟨e,he,hke,_⟩:=oO HA.out hy;have h1:=qp (m.map dY) ((c,d),(g,h)) i (dY e) (by rw [hk]; exact hi) (by rw [ah,he]; rfl);simp only [hy,hke,h1]
  rfl)
 have HHI:=L (show ∀ i,k<=i->i<n->(fun i=>match l[i]? with | some y=>!kC (jG y) ((c,d),(g,h)) | none=>U) i=U from fun i hi hi2=>by
  obtain⟨y,hy⟩:∃ y,l[i]?=V y:=⟨_,J (by omega)⟩;obtain⟨e,he,hke,_⟩:=oO HA.out hy;have h1:=Sb.vI hr ((c,d),(g,h)) (by rw [hk]; exact hi) he;simp only [hy,hke,h1]
  rfl)
 have HK:=L hk;have HT:=L hth;have HN:=L hn;have ln:n<=1000:=by omega
 clear hv hA h0 X Y Z hk hth hl hn hr;go_enter Tryz.func89,Tryz.ntmps89;go_wp2_with fail;generalize ((w.alloc (bK #[aT so n sc] 27)).alloc (bK #[ak au c,ak au d] 23)).alloc (bK #[ak au g,ak au h] 23)=W at *;refine (xC 136 #[aF (V ⟨w.heap.size,0,aX⟩),aF (V ⟨w.heap.size+1,0,aX⟩),aF (V ⟨w.heap.size+1+1,0,aX⟩)] acD n k _ W (by omega) HF.out hkn HLO.out HHI.out).mono ?_;rintro e1 w1 ⟨rfl,hb⟩;have BN:=L (fun dq osq=>(BB.out.trans (hb.mono BB.out.size)).trans ((below_regrown w1 dq osq).mono (BB.out.trans (hb.mono BB.out.size)).size));have a0:=cell_regrown (show w1.cell? ⟨w.heap.size,0,aX⟩=V (aT so n sc) from (X1.out.on hb).cell 0);have b0:=cell_regrown (show w1.cell? ⟨w.heap.size+1,0,aX⟩=V (ak au c) from (Y1.out.on hb).cell 0);have b1:=cell_regrown (show w1.cell? ⟨w.heap.size+1,1,aX⟩=V (ak au d) from (Y1.out.on hb).cell 1);have c0:=cell_regrown (show w1.cell? ⟨w.heap.size+1+1,0,aX⟩=V (ak au g) from (Z1.out.on hb).cell 0);have c1:=cell_regrown (show w1.cell? ⟨w.heap.size+1+1,1,aX⟩=V (ak au h) from (Z1.out.on hb).cell 1);clear x0 HF HLO HHI;by_cases hkl:k<n
 ·obtain⟨y,hy⟩:∃ y,l[k]?=V y:=⟨_,J (by rw [HN.out]; exact hkl)⟩;obtain⟨p,ix,p0,p1,p2,p3,p4,p5,p6⟩:=Dc HV.out rfl HN.out hy hb;have TH:=L (show th=decide (jG y=((c,d),(g,h))) from by
   obtain⟨e,he,hke,_⟩:=oO HA.out hy;rw [<- HT.out,jQ,HK.out,he,hke])
  have g4:decide ((k:Int)<(n:Int))=U:=by simp; omega
  obtain⟨y1,y2,y3,y4,⟨yo,yn,yc⟩,y6,y7⟩:=y;simp only at p0 p1 p2 p3;clear p4 p5 p6 hb hy;obtain⟨r1,hr1⟩:∃ r,(y1 == c && y2 == d)=r:=⟨_,rfl⟩;obtain⟨r2,hr2⟩:∃ r,(y3 == g && y4 == h)=r:=⟨_,rfl⟩;have e1:=rH y1 y2 c d r1 hr1;have e2:=rH y3 y4 g h r2 hr2;have R:=L (show th=(r1 && r2) from by
   rw [TH.out,<- hr1,<- hr2,Bool.eq_iff_iff];simp only [decide_eq_true_eq,aG,beq_iff_eq,Prod.mk.injEq])
  clear hr1 hr2 TH HT;cases r1 <;> cases r2
  all_goals
   go_wp2;refine wp_region_quiet_below (by kernel_rfl) (by kernel_rfl) ?_
   repeat (go_big_quiet_step (fail))
   refine wpQuiet_nil ?_;intro _ hw';obtain⟨⟨dq,osq⟩,hw''⟩:=hw';subst hw'';go_wp2
   go_ret2
   exact⟨by rw [R.out]; rfl,BN.out _ _⟩
 ·have TH:=L (show th=aJ from by
   rw [<- HT.out,jQ,HK.out,bH (by rw [<- HA.out.len,HN.out]; omega)])
  have g4:decide ((k:Int)<(n:Int))=aJ:=by simp; omega
  clear hb HT;go_wp2;refine wp_region_quiet_below (by kernel_rfl) (by kernel_rfl) ?_
  repeat (go_big_quiet_step (fail))
  refine wpQuiet_nil ?_;intro _ hw';obtain⟨⟨dq,osq⟩,hw''⟩:=hw';subst hw'';go_wp2
  go_ret2
  exact⟨by rw [TH.out]; rfl,BN.out _ _⟩
end Sb
end Go.Proofs.YtghlpefopidlaaaGreat
