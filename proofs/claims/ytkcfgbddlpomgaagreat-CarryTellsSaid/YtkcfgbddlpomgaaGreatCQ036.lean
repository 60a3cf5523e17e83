/-
  Right's closures, an. Conditions as told.
-/
import Derived.Test.YtkcfgbddlpomgaaGreatCQ035
set_option maxRecDepth 100000
set_option maxHeartbeats 64000000
open _root_.Bool renaming true->Q,and_eq_true->ak,false->aG,true_and->aK
open _root_.List renaming getElem?_eq_some_iff->D,pairwise_cons->K,mem_filter->L,takeWhile_cons->O,mem_iff_getElem?->U,dropWhile_cons->V,mem_cons->X,mem_append->Y,getElem?_map->Z,takeWhile_append_dropWhile->ah,take_append_drop->aj,length_cons->au,all_eq_true->aB,singleton_append->aC,mem_cons_of_mem->aD,filter_sublist->aF,all_takeWhile->aH,filter_append->aI,append_assoc->aJ
open Option.some renaming inj->J
open _root_.Or renaming inr->ay,inl->aA
namespace Go.Proofs.YtkcfgbddlpomgaaGreat
namespace Av
open Go.RowKit Go.Sort Rw YtkcfgbddlpomgaaGreat.Nm Pr Bk
abbrev cAd (a b:Ad):Int:=lq a.id b.id
abbrev xL (a b:En):Int:=Pt (lq a.tree b.tree) (lq a.sub b.sub)
abbrev cOw (a b:Ow):Int:=lq a.id b.id
def acJ (b:Br):Bool:=qR oq b.near && (qR lq b.seen && (qR cAd b.dL && (qR xL b.ent && (qR cOw b.own && (b.dL.all (aay b) && (b.ent.all (wP b) && b.own.all (fun o=>Wr.jd o.p)))))))
theorem lW {α:Type} {c:α->α->Int} (ht:∀ x y z,c x y<0->c y z<0->c x z<0):∀ {l:List α},qR c l=Q->l.Pairwise fun x y=>c x y<0
 | [],_=>List.Pairwise.nil
 | [x],_=>List.pairwise_singleton _ _
 | x::y::l,h=>by
  unfold qR at h;rw [ak] at h;have ih:=lW ht h.2;have hxy:c x y<0:=of_decide_eq_true h.1;refine K.2 ⟨fun z hz=>?_,ih⟩;rcases X.1 hz with rfl|hz
  ·exact hxy
  ·exact ht x y z hxy ((K.1 ih).1 z hz)
theorem nD {x y:eF}:lq x y<0↔dY x y=Q:=rT x y
theorem Ei (x y z:eF) (h1:lq x y<0) (h2:lq y z<0):lq x z<0:=nD.2 (iq (nD.1 h1) (nD.1 h2))
theorem N9 {l:List eF} (h:qR lq l=Q):GU l:=(lW Ei h).imp fun {_a _b} q=>nD.1 q
theorem Sm {l:List Ad} (h:qR cAd l=Q):rU l:=(lW (fun x y z=>Ei x.id y.id z.id) h).imp fun {_a _b} q=>nD.1 q
theorem pY {α:Type} {c:α->α->Int}:∀ {l:List α},(l.Pairwise fun x y=>c x y<0)->qR c l=Q
 | [],_=>rfl
 | [_],_=>rfl
 | x::y::l,h=>by
  have h1:=K.1 h;unfold qR;rw [decide_eq_true (h1.1 y (by simp)),aK];exact pY h1.2
theorem Wj (x y z:Int) (h1:oq x y<0) (h2:oq y z<0):oq x z<0:=by rw [rR] at *; omega
theorem sO (a b:En):xL a b<0↔(dY a.tree b.tree=Q\/(a.tree=b.tree/\dY a.sub b.sub=Q)):=by
 unfold xL Pt;by_cases h:lq a.tree b.tree=0
 ·rw [if_pos h,rT];have e:=(sM _ _).1 h;constructor
  ·exact fun q=>ay ⟨e,q⟩
  ·rintro (q|⟨_,q⟩)
   ·rw [e,jY] at q; cases q
   ·exact q
 ·rw [if_neg h,rT];constructor
  ·exact aA
  ·rintro (q|⟨q,_⟩)
   ·exact q
   ·exact absurd ((sM _ _).2 q) h
theorem Ej (x y z:En) (h1:xL x y<0) (h2:xL y z<0):xL x z<0:=by
 rw [sO] at *;rcases h1 with h1|⟨e1,h1⟩ <;> rcases h2 with h2|⟨e2,h2⟩
 ·exact aA (iq h1 h2)
 ·exact aA (by rw [<- e2]; exact h1)
 ·exact aA (by rw [e1]; exact h2)
 ·exact ay ⟨e1.trans e2,iq h1 h2⟩
structure jG (b:Br):Prop where
 near:b.near.Pairwise (·<·)
 seen:GU b.seen
 dL:rU b.dL
 ent:b.ent.Pairwise fun x y=>xL x y<0
 own:j5 Ow.id b.own
 oks:∀ a∈b.dL,a.id∈b.seen/\jU b.near a.par=Q/\Wr.jd a.p=Q
 Oa:∀ e∈b.ent,wP b e=Q
 X8:∀ o∈b.own,Wr.jd o.p=Q
theorem zy (b:Br):acJ b=Q↔jG b:=by
 unfold acJ;simp only [ak,aB];constructor
 ·rintro⟨h1,h2,h3,h4,h5,h6,h7,h8⟩;refine⟨(lW Wj h1).imp fun {a b} q=>(rR a b).1 q,N9 h2,Sm h3,lW Ej h4,(lW (fun x y z=>Ei x.id y.id z.id) h5).imp fun {a b} q=>nD.1 q,fun a ha=>?_,h7,h8⟩;have:=h6 a ha;unfold aay at this;simp only [ak,decide_eq_true_eq] at this;exact this
 ·rintro⟨h1,h2,h3,h4,h5,h6,h7,h8⟩;refine⟨pY (h1.imp fun {a b} q=>(rR a b).2 q),pY (h2.imp fun {a b} q=>nD.2 q),pY (h3.imp fun {a b} q=>nD.2 q),pY h4,pY (h5.imp fun {a b} q=>nD.2 q),fun a ha=>?_,h7,h8⟩;unfold aay;simp only [ak,decide_eq_true_eq];exact h6 a ha
theorem jH {α:Type} (l:List α) (k:Nat) (x y:α):y∈fP l k x↔y=x\/y∈l:=by
 unfold fP;rw [Y,Y,List.mem_singleton]
 conv=>rhs; rw [<- aj k l,Y]
 constructor
 ·rintro ((h|h)|h)
  ·exact ay (aA h)
  ·exact aA h
  ·exact ay (ay h)
 ·rintro (h|h|h)
  ·exact aA (ay h)
  ·exact aA (aA h)
  ·exact ay h
theorem GV {α:Type} (key:α->eF):∀ (l:List α) (x:eF),∀ y∈l.take (fZ key l x),dY (key y) x=Q
 | [],_,y,h=>by simp at h
 | a::l,x,y,h=>by
  unfold fZ at h;by_cases ha:dY (key a) x=Q
  ·simp only [O,ha,if_true,au,List.take_succ_cons,X] at h;rcases h with rfl|h
   ·exact ha
   ·exact GV key l x y h
  ·simp [ha] at h
theorem vg {α:Type} {key:α->eF}:∀ {l:List α} (_:j5 key l) (x:eF) (_:∀ y∈l,key y≠x),∀ y∈l.drop (fZ key l x),dY x (key y)=Q
 | [],_,_,_,y,h=>by simp at h
 | a::l,hr,x,hn,y,h=>by
  unfold fZ at h;have hr':=K.1 hr;by_cases ha:dY (key a) x=Q
  ·simp only [O,ha,if_true,au,List.drop_succ_cons] at h;exact vg hr'.2 x (fun y hy=>hn y (aD _ hy)) y h
  ·simp [ha] at h;have hax:dY x (key a)=Q:=by
    rcases oI (key a) x with q|q|q
    ·exact absurd q ha
    ·exact absurd q (hn a (by simp))
    ·exact q
   rcases h with rfl|h
   ·exact hax
   ·exact iq hax (hr'.1 y h)
theorem jP {α:Type} {key:α->eF} {l:List α} (hr:j5 key l) (x:α) (hn:∀ y∈l,key y≠key x):j5 key (fP l (fZ key l (key x)) x):=by
 unfold fP;have h1:j5 key (l.take (fZ key l (key x))):=hr.sublist (List.take_sublist _ _);have h2:j5 key (l.drop (fZ key l (key x))):=hr.sublist (List.drop_sublist _ _);have lo:=GV key l (key x);have hi:=vg hr (key x) hn;unfold j5 at *;rw [aJ,List.pairwise_append];refine⟨h1,?_,fun a ha b hb=>?_⟩
 ·rw [aC,K];exact⟨fun b hb=>hi b hb,h2⟩
 ·rw [aC,X] at hb;rcases hb with rfl|hb
  ·exact lo a ha
  ·exact iq (lo a ha) (hi b hb)
theorem nW {l:List Ad} {x:eF} {a:Ad} (h:gu l x=some a):a∈l/\a.id=x:=by
 unfold gu at h;exact⟨List.mem_of_find?_eq_some h,by simpa using List.find?_some h⟩
theorem nX {l:List Ad} (hr:rU l) {a:Ad} (ha:a∈l):gu l a.id=some a:=by
 obtain⟨k,hk⟩:=U.1 ha;refine rP hk rfl fun j z hj hz e=>?_;have:=mK hr hj hz hk;rw [e,jY] at this;cases this
theorem GY {l m:List Ad} (hl:rU l) (hm:rU m) {x:eF} (h:∀ a,a.id=x->(a∈l↔a∈m)):gu l x=gu m x:=by
 cases h1:gu l x with
 | none =>
  cases h2:gu m x with
  | none=>rfl
  | some a =>
   obtain⟨q1,q2⟩:=nW h2;have:=nX hl ((h a q2).2 q1);rw [q2,h1] at this;cases this
 | some a =>
  obtain⟨q1,q2⟩:=nW h1;have:=nX hm ((h a q2).1 q1);rw [q2] at this;exact this.symm
theorem sP {b c:Br} {e:En} (hn:c.near=b.near) (hf:gu c.dL e.tree=gu b.dL e.tree) (h:wP b e=Q):wP c e=Q:=by
 unfold wP at *;rw [hf,hn];exact h
theorem G7 {b:Br} (h:jG b) (a:Ad) (hp:jU b.near a.par=Q) (hq:Wr.jd a.p=Q):jG (fB b a).1:=by
 by_cases hin:a.id∈b.seen
 ·rw [wO hin]; exact h
 ·rw [uw hin];have hna:∀ y∈b.dL,y.id≠a.id:=fun y hy e=>hin (by rw [<- e]; exact (h.oks y hy).1);have hns:∀ y∈b.seen,y≠a.id:=fun y hy e=>hin (by rw [<- e]; exact hy);have ra:rU (fP b.dL (fD (b.dL.map Ad.id) a.id) a):=by
   rw [<- iT];exact jP h.dL a hna
  have rs:GU (fP b.seen (fD b.seen a.id) a.id):=by
   have:=jP (key:=fun x:eF=>x) h.seen a.id hns;rw [iT,List.map_id'] at this;exact this
  refine⟨h.near,rs,ra,h.ent,h.own,fun y hy=>?_,fun e he=>?_,h.X8⟩
  ·rcases (jH _ _ _ _).1 hy with rfl|hy
   ·exact⟨(jH _ _ _ _).2 (aA rfl),hp,hq⟩
   ·exact⟨(jH _ _ _ _).2 (ay (h.oks y hy).1),(h.oks y hy).2⟩
  ·refine sP (b:=b) rfl (GY ra h.dL fun y hy=>?_) (h.Oa e he);rw [jH];refine⟨fun q=>q.resolve_left fun e2=>?_,ay⟩;have hk:=h.Oa e he;unfold wP at hk;cases hf:gu b.dL e.tree with
   | none=>rw [hf] at hk; cases hk
   | some z =>
    obtain⟨z1,z2⟩:=nW hf;exact hna z z1 (by rw [z2,<- hy,e2])
theorem Ob {b:Br} (h:jG b) (x:eF) (f:Int):jG (sN b x f).1:=by
 unfold sN;cases gu b.dL x with
 | none=>exact h
 | some a =>
  simp only
  split
  ·have ra:rU (b.dL.filter fun e=>decide (e.id≠x)):=h.dL.sublist aF;refine⟨h.near,h.seen,ra,h.ent.sublist aF,h.own,fun y hy=>h.oks y ((L.1 hy).1),fun e he=>?_,h.X8⟩;have ht:e.tree≠x:=of_decide_eq_true (L.1 he).2;refine sP (b:=b) rfl (GY ra h.dL fun y hy=>?_) (h.Oa e (L.1 he).1);rw [L];exact⟨fun q=>q.1,fun q=>⟨q,decide_eq_true (by rw [hy]; exact ht)⟩⟩
  ·exact h
end Av
namespace Sb
open Go.RowKit Go.Sort Rw YtkcfgbddlpomgaaGreat.Nm Pr Bk Av
abbrev kC (m:List En):Prop:=m.Pairwise fun x y=>xL x y<0
def jy (m:List En) (t:eF):Nat:=(m.takeWhile fun e=>dY e.tree t).length
def rA (m:List En) (t:eF):List En:=(m.drop (jy m t)).takeWhile fun e=>decide (e.tree=t)
def Sn (r:List En) (p:List C5):Bool:=r.any fun e=>e.up && mg e.p p
theorem zA:∀ (l:List eF) (x:eF),eU l x=iH l x
 | [],_=>rfl
 | a::l,x=>by rw [eU,iH,zA l x]
theorem p8 (x y:En):iZ (eY x) (eY y)=Q↔xL x y<0:=by
 rw [sO];unfold iZ;simp [xY]
theorem wQ (x:eF×eF):iZ x x=aG:=by simp [iZ,jY]
def qO (m:List En) (t s:eF):Bool:=match m[eG (m.map eY) (t,s)]? with
 | none=>aG
 | some e=>decide (eY e=(t,s))
theorem p9:∀ (l:List (eF×eF)) (x:eF×eF) (j:Nat) (y:eF×eF),j<eG l x->l[j]?=some y->iZ y x=Q
 | [],_,_,_,_,h=>by simp at h
 | a::l,x,j,y,hj,h=>by
  unfold eG at hj;by_cases ha:iZ a x=Q
  ·rw [O,if_pos ha,au] at hj;cases j with
   | zero=>rw [<- J (show some a=some y from h)]; exact ha
   | succ j=>exact p9 l x j y (by unfold eG; omega) (by simpa using h)
  ·rw [O,if_neg ha] at hj;simp at hj
theorem wR:∀ (l:List (eF×eF)) (x y:eF×eF),l[eG l x]?=some y->iZ y x=aG
 | [],_,_,h=>by simp [eG] at h
 | a::l,x,y,h=>by
  unfold eG at h;by_cases ha:iZ a x=Q
  ·rw [O,if_pos ha,au] at h;exact wR l x y (by unfold eG; simpa using h)
  ·rw [O,if_neg ha] at h;rw [<- J (show some a=some y from h)];simpa using ha
theorem JJ {m:List En} (hr:kC m) (t s:eF):iH (m.map eY) (t,s)=if qO m t s=Q then (eG (m.map eY) (t,s):Int) else -1:=by
 unfold qO;cases hp:m[eG (m.map eY) (t,s)]? with
 | none =>
  rw [if_neg (by simp)];refine tZ _ _ fun j y hj e=>?_;have hl:m.length<=eG (m.map eY) (t,s):=List.getElem?_eq_none_iff.1 hp;have hj2:=(D.1 hj).1;rw [List.length_map] at hj2;have h:=p9 _ (t,s) j y (by omega) hj;rw [e,wQ] at h;cases h
 | some e =>
  have hpk:(m.map eY)[eG (m.map eY) (t,s)]?=some (eY e):=by rw [Z,hp]; rfl
  by_cases he:eY e=(t,s)
  ·simp only [he,decide_true,if_true];rw [he] at hpk;refine Gd _ _ _ hpk fun j z hj hz q=>?_;have h:=p9 _ (t,s) j z hj hz;rw [q,wQ] at h;cases h
  ·rw [if_neg (by simpa using he)];refine tZ _ _ fun j y hj q=>?_;rcases Nat.lt_trichotomy j (eG (m.map eY) (t,s)) with h|h|h
   ·have h:=p9 _ (t,s) j y h hj;rw [q,wQ] at h;cases h
   ·subst h;rw [hpk] at hj;exact he ((J hj).trans q)
   ·rw [Z] at hj;cases hz:m[j]? with
    | none=>rw [hz] at hj; cases hj
    | some z =>
     rw [hz] at hj;have h1:=List.pairwise_iff_getElem.1 hr _ _ (D.1 hp).1 (D.1 hz).1 h;rw [(D.1 hp).2,(D.1 hz).2,<- p8] at h1;have h2:=wR _ _ _ hpk;rw [show eY z=(t,s) from (J hj).trans q] at h1;rw [h1] at h2;cases h2
theorem Lf {x y:En} (h:xL x y<0):dY x.tree y.tree=Q\/x.tree=y.tree:=by
 rcases (sO x y).1 h with q|q
 ·exact aA q
 ·exact ay q.1
theorem zB {α:Type} (p:α->Bool):∀ l:List α,l.drop (l.takeWhile p).length=l.dropWhile p
 | []=>rfl
 | a::l=>by
  by_cases h:p a=Q
  ·simp [h,zB p l]
  ·simp [h]
theorem JK:∀ {m:List En} (t:eF) (_:kC m),∀ e∈m.dropWhile (fun e=>dY e.tree t),dY e.tree t=aG
 | [],_,_,e,h=>by simp at h
 | a::m,t,hr,e,h=>by
  have hr':=K.1 hr;by_cases ha:dY a.tree t=Q
  ·rw [V,if_pos ha] at h;exact JK t hr'.2 e h
  ·rw [V,if_neg ha] at h;rcases X.1 h with rfl|h
   ·simpa using ha
   ·cases hq:dY e.tree t with
    | false=>rfl
    | true =>
     exfalso;rcases Lf (hr'.1 e h) with q|q
     ·exact ha (iq q hq)
     ·exact ha (by rw [q]; exact hq)
theorem Sq:∀ {m:List En} (t:eF) (_:kC m) (_:∀ e∈m,dY e.tree t=aG),∀ e∈m.dropWhile (fun e=>decide (e.tree=t)),dY t e.tree=Q
 | [],_,_,_,e,h=>by simp at h
 | a::m,t,hr,hl,e,h=>by
  have hr':=K.1 hr;by_cases ha:a.tree=t
  ·rw [V,if_pos (by simpa using ha)] at h;exact Sq t hr'.2 (fun e he=>hl e (aD _ he)) e h
  ·rw [V,if_neg (by simpa using ha)] at h;have hta:dY t a.tree=Q:=by
    rcases oI a.tree t with q|q|q
    ·rw [hl a (by simp)] at q; cases q
    ·exact absurd q ha
    ·exact q
   rcases X.1 h with rfl|h
   ·exact hta
   ·rcases Lf (hr'.1 e h) with q|q
    ·exact iq hta q
    ·rw [<- q]; exact hta
theorem Lg {x t:eF} (h:dY x t=Q):x≠t:=by rintro rfl; rw [jY] at h; cases h
theorem Sr {m:List En} (hr:kC m) (t:eF):∃ c,m=m.take (jy m t)++rA m t++c/\(m.take (jy m t)).length=jy m t/\(∀ e∈m.take (jy m t),e.tree≠t)/\(∀ e∈rA m t,e.tree=t)/\(∀ e∈c,e.tree≠t):=by
 have e1:m.take (jy m t)=m.takeWhile fun e=>dY e.tree t:=by
  unfold jy
  conv=>lhs; arg 2; rw [<- ah (p:=fun e:En=>dY e.tree t) (l:=m)]
  rw [List.take_left]
 have e2:m.drop (jy m t)=m.dropWhile fun e=>dY e.tree t:=zB _ _;refine⟨(m.drop (jy m t)).dropWhile fun e=>decide (e.tree=t),?_,?_,?_,?_,?_⟩
 ·unfold rA;rw [aJ,ah,aj]
 ·rw [e1]; rfl
 ·rw [e1];intro e he;exact Lg (aB.1 aH e he)
 ·intro e he;unfold rA at he;exact of_decide_eq_true (aB.1 (aH (p:=fun e:En=>decide (e.tree=t))) e he)
 ·rw [e2];intro e he;have h1:kC (m.dropWhile fun e=>dY e.tree t):=hr.sublist (List.dropWhile_sublist _);exact (Lg (Sq t h1 (JK t hr) e he)).symm
theorem G9 {α:Type} {p:α->Bool} {l:List α} (h:∀ e∈l,p e=aG):l.filter p=[]:=by
 rw [List.filter_eq_nil_iff];intro e he;rw [h e he];simp
theorem wS {m:List En} (hr:kC m) (t:eF):rA m t=m.filter fun e=>decide (e.tree=t):=by
 obtain⟨c,h1,_,h2,h3,h4⟩:=Sr hr t;generalize rA m t=r at *;generalize m.take (jy m t)=a at *;subst h1;rw [aI,aI,G9 (l:=a) fun e he=>by simpa using h2 e he,G9 (l:=c) fun e he=>by simpa using h4 e he,List.nil_append,List.append_nil];exact (List.filter_eq_self.2 fun e he=>by simpa using h3 e he).symm
theorem aaz {m:List En} (hr:kC m) (t:eF) (p:List C5):Sn (rA m t) p=eP m t p:=by
 rw [wS hr,Sn,List.any_filter]
 rfl
theorem JL {m:List En} (hr:kC m) (t:eF) (e:En):e∈rA m t↔e∈m/\e.tree=t:=by
 rw [wS hr,L,decide_eq_true_eq]
def gX (b:Br):Prop:=∀ a∈b.dL,a.par≠-1->∀ e∈b.ent,e.tree=a.id->e.up=aG->eP b.ent a.id e.p=Q
theorem mh (m:List En) (t:eF) (p:List C5):eP m t p=Q↔∃ e∈m,e.tree=t/\e.up=Q/\mg e.p p=Q:=by
 unfold eP;rw [List.any_eq_true];simp [QH]
theorem He {b:Br} (h:jG b) (a:Ad) (ht:gX b):gX (fB b a).1:=by
 by_cases hin:a.id∈b.seen
 ·rw [wO hin]; exact ht
 ·rw [uw hin];intro y hy hp e he hte hu;rcases (jH _ _ _ _).1 hy with rfl|hy
  ·exfalso;have hk:=h.Oa e he;unfold wP at hk;cases hf:gu b.dL e.tree with
   | none=>rw [hf] at hk; cases hk
   | some z =>
    obtain⟨z1,z2⟩:=nW hf;exact hin (by rw [<- hte,<- z2]; exact (h.oks z z1).1)
  ·exact ht y hy hp e he hte hu
theorem El {b:Br} (x:eF) (f:Int) (ht:gX b):gX (sN b x f).1:=by
 unfold sN;cases gu b.dL x with
 | none=>exact ht
 | some a =>
  simp only
  split
  ·intro y hy hp e he hte hu;have hy':=L.1 hy;have he':=L.1 he;obtain⟨z,h1,h2,h3,h4⟩:=(mh _ _ _).1 (ht y hy'.1 hp e he'.1 hte hu);refine (mh _ _ _).2 ⟨z,L.2 ⟨h1,?_⟩,h2,h3,h4⟩;rw [h2];exact hy'.2
  ·exact ht
theorem Dc {b:Br} (h:jG b) (e:En) (ht:gX b):gX (gN b e).1:=by
 unfold gN
 split
 ·exact ht
 ·rename_i a ha
  split
  ·exact ht
  ·rename_i h1
   split
   ·exact ht
   ·split
    ·exact ht
    ·have hid:a.id=e.tree:=by
      rcases mG (b.dL.map Ad.id) e.tree with q|⟨k,q,r⟩
      ·exact absurd (zA _ _ ▸ q) h1
      ·rw [zA,q,Int.toNat_natCast] at ha;rw [Z,ha] at r;exact J r
     have hA:a∈b.dL:=List.mem_of_getElem? ha;intro y hy hp z hz hte hu;have more:∀ p,eP b.ent y.id p=Q->eP (fP b.ent (eG (b.ent.map eY) (eY e)) { e with up:=decide (a.par≠-1) && !eP b.ent e.tree e.p }) y.id p=Q:=fun p hp=>by
      obtain⟨q,q1,q2⟩:=(mh _ _ _).1 hp;exact (mh _ _ _).2 ⟨q,(jH _ _ _ _).2 (ay q1),q2⟩
     rcases (jH _ _ _ _).1 hz with rfl|hz
     ·have hya:y=a:=by
       have g1:=nX h.dL hA;have g2:=nX h.dL hy;rw [show y.id=a.id from hte.symm.trans hid.symm,g1] at g2;exact (J g2).symm
      have hu':(decide (a.par≠-1) && !eP b.ent e.tree e.p)=aG:=hu;rw [<- hya,decide_eq_true hp,aK] at hu';refine more _ ?_;rw [<- show e.tree=y.id from hte];simpa using hu'
     ·exact more _ (ht y hy hp z hz hte hu)
theorem zC {α:Type} {l:List α} {k:Nat} {x y:α} (hk:l[k]?=some x) (hy:y∈l):y=x\/y∈cutAt l k:=by
 have hlt:=(D.1 hk).1;have e:l=l.take k++x::l.drop (k+1):=by
  conv=>lhs; rw [<- aj k l]
  rw [List.drop_eq_getElem_cons hlt,(D.1 hk).2]
 rw [e] at hy;unfold cutAt;rcases Y.1 hy with h|h
 ·exact ay (List.mem_append_left _ h)
 ·rcases X.1 h with h|h
  ·exact aA h
  ·exact ay (List.mem_append_right _ h)
theorem Lh {α:Type} {l:List α} {k:Nat} {y:α} (h:y∈cutAt l k):y∈l:=by
 unfold cutAt at h;rcases Y.1 h with h|h
 ·exact List.mem_of_mem_take h
 ·exact List.mem_of_mem_drop h
theorem Wm {α:Type} {l:List α} {k:Nat} {x y z:α} (hk:l[k]?=some x) (hz:z∈l):z=x\/z∈l.set k y:=by
 obtain⟨j,hj⟩:=U.1 hz;by_cases hjk:k=j
 ·subst hjk;rw [hk] at hj;exact aA (J hj).symm
 ·right;refine U.2 ⟨j,?_⟩;rw [List.getElem?_set_ne hjk];exact hj
theorem Hf {t:eF} {s:List En×List En} {k:Nat} (u:eF) (p:List C5) (h:eP s.1 u p=Q):eP (ig t s k).1 u p=Q:=by
 unfold ig
 split
 ·exact h
 ·rename_i e he
  split
  ·obtain⟨z,h1,h2,h3,h4⟩:=(mh _ _ _).1 h;rcases Wm (y:=Vd e) he h1 with rfl|h5
   ·rename_i hq
    rw [hq.2.1] at h3;cases h3
   ·exact (mh _ _ _).2 ⟨z,h5,h2,h3,h4⟩
  ·exact h
theorem Df (t:eF) (m:List En):∀ k,k<=m.length->(∀ j,j<k->∀ e,(iI t m k).1[j]?=some e->e.tree=t->e.up=aG->eP (iI t m k).1 t e.p=Q)/\(∀ u p,eP m u p=Q->eP (iI t m k).1 u p=Q)/\(∀ e,e∈(iI t m k).1->e.tree≠t->e∈m)
 | 0,_=>⟨fun j hj=>absurd hj (Nat.not_lt_zero _),fun _ _ h=>h,fun _ h _=>h⟩
 | k+1,hk=>by
  obtain⟨h1,h2,h3⟩:=Df t m k (by omega);rw [lU];refine⟨fun j hj e he htr hu=>?_,fun u p h=>Hf u p (h2 u p h),fun e he hne=>?_⟩
  ·have hl:=(nJ t m k).1;generalize iI t m k=s at *;obtain⟨z,hz⟩:∃ z,s.1[k]?=some z:=⟨_,List.getElem?_eq_getElem (by omega)⟩;by_cases hc:z.tree=t/\z.up=aG/\eP s.1 t z.p=aG
   ·have e1:ig t s k=(s.1.set k (Vd z),s.2++[Vd z]):=by unfold ig; rw [hz]; simp only; rw [if_pos hc]
    have mono:=Hf (t:=t) (s:=s) (k:=k) t;rw [e1] at he mono ⊢;rw [List.getElem?_set] at he
    split at he
    ·split at he
     ·rw [<- J he] at hu;cases hu
     ·cases he
    ·exact mono _ (h1 j (by omega) e he htr hu)
   ·have e1:ig t s k=s:=by unfold ig; rw [hz]; simp only; rw [if_neg hc]
    rw [e1] at he ⊢;rcases Nat.lt_or_ge j k with h0|h0
    ·exact h1 j h0 e he htr hu
    ·obtain rfl:j=k:=by omega
     rw [hz] at he;obtain rfl:=J he;cases hv:eP s.1 t z.p with
     | true=>rfl
     | false=>exact absurd ⟨htr,hu,hv⟩ hc
  ·unfold ig at he
   split at he
   ·exact h3 e he hne
   ·rename_i z hz
    split at he
    ·rename_i hq
     rcases List.mem_or_eq_of_mem_set he with h5|h5
     ·exact h3 e h5 hne
     ·rw [h5] at hne;exact absurd hq.1 hne
    ·exact h3 e he hne
theorem zD {b:Br} (t x:eF) (f:Int) (ht:gX b):gX (takeB b t x f).1:=by
 unfold takeB
 split
 ·exact ht
 ·rename_i e0 he0
  split
  ·exact ht
  ·rename_i h1
   split
   ·exact ht
   ·have h5:e0.tree=t:=by
     rcases mG (b.ent.map eY) (t,x) with q|⟨k,q,r⟩
     ·exact absurd q h1
     ·rw [q,Int.toNat_natCast] at he0;rw [Z,he0] at r;exact congrArg Prod.fst (J r)
    generalize (iH (b.ent.map eY) (t,x)).toNat=k at *
    split
    ·rename_i hup
     intro y hy hp z hz hte hu;obtain⟨q,q1,q2,q3,q4⟩:=(mh _ _ _).1 (ht y hy hp z (Lh hz) hte hu);refine (mh _ _ _).2 ⟨q,(zC he0 q1).resolve_left ?_,q2,q3,q4⟩;rintro rfl;rw [hup] at q3;cases q3
    ·intro y hy hp z hz hte hu;obtain⟨g1,g2,g3⟩:=Df t (cutAt b.ent k) (cutAt b.ent k).length (Nat.le_refl _);by_cases hyt:y.id=t
     ·obtain⟨j,hj⟩:=U.1 hz;have hlt:=(D.1 hj).1;rw [(nJ t (cutAt b.ent k) _).1] at hlt;rw [hyt] at hte ⊢;exact g1 j hlt z hj hte hu
     ·have hzt:z.tree≠t:=by rw [hte]; exact hyt
      obtain⟨q,q1,q2,q3,q4⟩:=(mh _ _ _).1 (ht y hy hp z (Lh (g3 z hz hzt)) hte hu);refine g2 _ _ ((mh _ _ _).2 ⟨q,(zC he0 q1).resolve_left ?_,q2,q3,q4⟩);rintro rfl;exact hyt (q2.symm.trans h5)
end Sb
end Go.Proofs.YtkcfgbddlpomgaaGreat
