/-
  rightEntry of packag. Conditions as told.
-/
import Derived.Test.YtkcfgbddlpomgaaGreatLQ031
import Derived.Test.YtkcfgbddlpomgaaGreatLQ021
set_option maxRecDepth 100000
set_option maxHeartbeats 64000000
open _root_.Bool renaming true->Q,and_eq_true->ak,false->aD,true_and->aK
open _root_.List renaming getElem?_eq_some_iff->D,pairwise_cons->K,mem_filter->L,takeWhile_cons->O,mem_iff_getElem?->U,dropWhile_cons->V,mem_cons->X,mem_append->Y,getElem?_map->Z,takeWhile_append_dropWhile->ah,take_append_drop->aj,length_cons->au,all_eq_true->aB,singleton_append->aC,mem_cons_of_mem->aF,filter_sublist->aG,all_takeWhile->aH,filter_append->aI,append_assoc->aJ
open Option.some renaming inj->J
open _root_.Or renaming inr->ay,inl->aA
namespace Go.Proofs.YtkcfgbddlpomgaaGreat
namespace Av
open Go.RowKit Go.Sort Rw YtkcfgbddlpomgaaGreat.Nm Pr Bk
def uS (b:Br) (e:En):Bool:=match fP b.dM e.tree with
 | none=>aD
 | some a=>!(e.from_ == a.par && !(a.par == -1)) && (jQ b.near e.from_ && (!(e.up && a.par == -1) && Wr.iV e.p))
abbrev cAd (a b:Ad):Int:=lF a.id b.id
abbrev xE (a b:En):Int:=PD (lF a.tree b.tree) (lF a.sub b.sub)
abbrev cOw (a b:Ow):Int:=lF a.id b.id
def ac6 (b:Br):Bool:=qW ou b.near && (qW lF b.seen && (qW cAd b.dM && (qW xE b.ent && (qW cOw b.own && (b.dM.all (aa0 b) && (b.ent.all (uS b) && b.own.all (fun o=>Wr.iV o.p)))))))
theorem mo {α:Type} {c:α->α->Int} (ht:∀ x y z,c x y<0->c y z<0->c x z<0):∀ {l:List α},qW c l=Q->l.Pairwise fun x y=>c x y<0
 | [],_=>List.Pairwise.nil
 | [x],_=>List.pairwise_singleton _ _
 | x::y::l,h=>by
  unfold qW at h;rw [ak] at h;have ih:=mo ht h.2;have hxy:c x y<0:=of_decide_eq_true h.1;refine K.2 ⟨fun z hz=>?_,ih⟩;rcases X.1 hz with rfl|hz
  ·exact hxy
  ·exact ht x y z hxy ((K.1 ih).1 z hz)
theorem nD {x y:eG}:lF x y<0↔dZ x y=Q:=rM x y
theorem Ec (x y z:eG) (h1:lF x y<0) (h2:lF y z<0):lF x z<0:=nD.2 (iw (nD.1 h1) (nD.1 h2))
theorem Oe {l:List eG} (h:qW lF l=Q):Gt l:=(mo Ec h).imp fun {_a _b} q=>nD.1 q
theorem Si {l:List Ad} (h:qW cAd l=Q):rT l:=(mo (fun x y z=>Ec x.id y.id z.id) h).imp fun {_a _b} q=>nD.1 q
theorem p9 {α:Type} {c:α->α->Int}:∀ {l:List α},(l.Pairwise fun x y=>c x y<0)->qW c l=Q
 | [],_=>rfl
 | [_],_=>rfl
 | x::y::l,h=>by
  have h1:=K.1 h;unfold qW;rw [decide_eq_true (h1.1 y (by simp)),aK];exact p9 h1.2
theorem WK (x y z:Int) (h1:ou x y<0) (h2:ou y z<0):ou x z<0:=by rw [rJ] at *; omega
theorem sN (a b:En):xE a b<0↔(dZ a.tree b.tree=Q\/(a.tree=b.tree/\dZ a.sub b.sub=Q)):=by
 unfold xE PD;by_cases h:lF a.tree b.tree=0
 ·rw [if_pos h,rM];have e:=(sH _ _).1 h;constructor
  ·exact fun q=>ay ⟨e,q⟩
  ·rintro (q|⟨_,q⟩)
   ·rw [e,j5] at q; cases q
   ·exact q
 ·rw [if_neg h,rM];constructor
  ·exact aA
  ·rintro (q|⟨q,_⟩)
   ·exact q
   ·exact absurd ((sH _ _).2 q) h
theorem Ed (x y z:En) (h1:xE x y<0) (h2:xE y z<0):xE x z<0:=by
 rw [sN] at *;rcases h1 with h1|⟨e1,h1⟩ <;> rcases h2 with h2|⟨e2,h2⟩
 ·exact aA (iw h1 h2)
 ·exact aA (by rw [<- e2]; exact h1)
 ·exact aA (by rw [e1]; exact h2)
 ·exact ay ⟨e1.trans e2,iw h1 h2⟩
structure jB (b:Br):Prop where
 near:b.near.Pairwise (·<·)
 seen:Gt b.seen
 dM:rT b.dM
 ent:b.ent.Pairwise fun x y=>xE x y<0
 own:j6 Ow.id b.own
 oks:∀ a∈b.dM,a.id∈b.seen/\jQ b.near a.par=Q/\Wr.iV a.p=Q
 Ld:∀ e∈b.ent,uS b e=Q
 Yp:∀ o∈b.own,Wr.iV o.p=Q
theorem zq (b:Br):ac6 b=Q↔jB b:=by
 unfold ac6;simp only [ak,aB];constructor
 ·rintro⟨h1,h2,h3,h4,h5,h6,h7,h8⟩;refine⟨(mo WK h1).imp fun {a b} q=>(rJ a b).1 q,Oe h2,Si h3,mo Ed h4,(mo (fun x y z=>Ec x.id y.id z.id) h5).imp fun {a b} q=>nD.1 q,fun a ha=>?_,h7,h8⟩;have:=h6 a ha;unfold aa0 at this;simp only [ak,decide_eq_true_eq] at this;exact this
 ·rintro⟨h1,h2,h3,h4,h5,h6,h7,h8⟩;refine⟨p9 (h1.imp fun {a b} q=>(rJ a b).2 q),p9 (h2.imp fun {a b} q=>nD.2 q),p9 (h3.imp fun {a b} q=>nD.2 q),p9 h4,p9 (h5.imp fun {a b} q=>nD.2 q),fun a ha=>?_,h7,h8⟩;unfold aa0;simp only [ak,decide_eq_true_eq];exact h6 a ha
theorem jI {α:Type} (l:List α) (k:Nat) (x y:α):y∈fM l k x↔y=x\/y∈l:=by
 unfold fM;rw [Y,Y,List.mem_singleton]
 conv=>rhs; rw [<- aj k l,Y]
 constructor
 ·rintro ((h|h)|h)
  ·exact ay (aA h)
  ·exact aA h
  ·exact ay (ay h)
 ·rintro (h|h|h)
  ·exact aA (ay h)
  ·exact aA (aA h)
  ·exact ay h
theorem Gw {α:Type} (key:α->eG):∀ (l:List α) (x:eG),∀ y∈l.take (gu key l x),dZ (key y) x=Q
 | [],_,y,h=>by simp at h
 | a::l,x,y,h=>by
  unfold gu at h;by_cases ha:dZ (key a) x=Q
  ·simp only [O,ha,if_true,au,List.take_succ_cons,X] at h;rcases h with rfl|h
   ·exact ha
   ·exact Gw key l x y h
  ·simp [ha] at h
theorem uT {α:Type} {key:α->eG}:∀ {l:List α} (_:j6 key l) (x:eG) (_:∀ y∈l,key y≠x),∀ y∈l.drop (gu key l x),dZ x (key y)=Q
 | [],_,_,_,y,h=>by simp at h
 | a::l,hr,x,hn,y,h=>by
  unfold gu at h;have hr':=K.1 hr;by_cases ha:dZ (key a) x=Q
  ·simp only [O,ha,if_true,au,List.drop_succ_cons] at h;exact uT hr'.2 x (fun y hy=>hn y (aF _ hy)) y h
  ·simp [ha] at h;have hax:dZ x (key a)=Q:=by
    rcases oJ (key a) x with q|q|q
    ·exact absurd q ha
    ·exact absurd q (hn a (by simp))
    ·exact q
   rcases h with rfl|h
   ·exact hax
   ·exact iw hax (hr'.1 y h)
theorem jT {α:Type} {key:α->eG} {l:List α} (hr:j6 key l) (x:α) (hn:∀ y∈l,key y≠key x):j6 key (fM l (gu key l (key x)) x):=by
 unfold fM;have h1:j6 key (l.take (gu key l (key x))):=hr.sublist (List.take_sublist _ _);have h2:j6 key (l.drop (gu key l (key x))):=hr.sublist (List.drop_sublist _ _);have lo:=Gw key l (key x);have hi:=uT hr (key x) hn;unfold j6 at *;rw [aJ,List.pairwise_append];refine⟨h1,?_,fun a ha b hb=>?_⟩
 ·rw [aC,K];exact⟨fun b hb=>hi b hb,h2⟩
 ·rw [aC,X] at hb;rcases hb with rfl|hb
  ·exact lo a ha
  ·exact iw (lo a ha) (hi b hb)
theorem nW {l:List Ad} {x:eG} {a:Ad} (h:fP l x=some a):a∈l/\a.id=x:=by
 unfold fP at h;exact⟨List.mem_of_find?_eq_some h,by simpa using List.find?_some h⟩
theorem nX {l:List Ad} (hr:rT l) {a:Ad} (ha:a∈l):fP l a.id=some a:=by
 obtain⟨k,hk⟩:=U.1 ha;refine rQ hk rfl fun j z hj hz e=>?_;have:=mM hr hj hz hk;rw [e,j5] at this;cases this
theorem Gx {l m:List Ad} (hl:rT l) (hm:rT m) {x:eG} (h:∀ a,a.id=x->(a∈l↔a∈m)):fP l x=fP m x:=by
 cases h1:fP l x with
 | none =>
  cases h2:fP m x with
  | none=>rfl
  | some a =>
   obtain⟨q1,q2⟩:=nW h2;have:=nX hl ((h a q2).2 q1);rw [q2,h1] at this;cases this
 | some a =>
  obtain⟨q1,q2⟩:=nW h1;have:=nX hm ((h a q2).1 q1);rw [q2] at this;exact this.symm
theorem sO {b c:Br} {e:En} (hn:c.near=b.near) (hf:fP c.dM e.tree=fP b.dM e.tree) (h:uS b e=Q):uS c e=Q:=by
 unfold uS at *;rw [hf,hn];exact h
theorem Gy {b:Br} (h:jB b) (a:Ad) (hp:jQ b.near a.par=Q) (hq:Wr.iV a.p=Q):jB (fC b a).1:=by
 by_cases hin:a.id∈b.seen
 ·rw [wI hin]; exact h
 ·rw [uo hin];have hna:∀ y∈b.dM,y.id≠a.id:=fun y hy e=>hin (by rw [<- e]; exact (h.oks y hy).1);have hns:∀ y∈b.seen,y≠a.id:=fun y hy e=>hin (by rw [<- e]; exact hy);have ra:rT (fM b.dM (fF (b.dM.map Ad.id) a.id) a):=by
   rw [<- iT];exact jT h.dM a hna
  have rs:Gt (fM b.seen (fF b.seen a.id) a.id):=by
   have:=jT (key:=fun x:eG=>x) h.seen a.id hns;rw [iT,List.map_id'] at this;exact this
  refine⟨h.near,rs,ra,h.ent,h.own,fun y hy=>?_,fun e he=>?_,h.Yp⟩
  ·rcases (jI _ _ _ _).1 hy with rfl|hy
   ·exact⟨(jI _ _ _ _).2 (aA rfl),hp,hq⟩
   ·exact⟨(jI _ _ _ _).2 (ay (h.oks y hy).1),(h.oks y hy).2⟩
  ·refine sO (b:=b) rfl (Gx ra h.dM fun y hy=>?_) (h.Ld e he);rw [jI];refine⟨fun q=>q.resolve_left fun e2=>?_,ay⟩;have hk:=h.Ld e he;unfold uS at hk;cases hf:fP b.dM e.tree with
   | none=>rw [hf] at hk; cases hk
   | some z =>
    obtain⟨z1,z2⟩:=nW hf;exact hna z z1 (by rw [z2,<- hy,e2])
theorem Og {b:Br} (h:jB b) (x:eG) (f:Int):jB (sK b x f).1:=by
 unfold sK;cases fP b.dM x with
 | none=>exact h
 | some a =>
  simp only
  split
  ·have ra:rT (b.dM.filter fun e=>decide (e.id≠x)):=h.dM.sublist aG;refine⟨h.near,h.seen,ra,h.ent.sublist aG,h.own,fun y hy=>h.oks y ((L.1 hy).1),fun e he=>?_,h.Yp⟩;have ht:e.tree≠x:=of_decide_eq_true (L.1 he).2;refine sO (b:=b) rfl (Gx ra h.dM fun y hy=>?_) (h.Ld e (L.1 he).1);rw [L];exact⟨fun q=>q.1,fun q=>⟨q,decide_eq_true (by rw [hy]; exact ht)⟩⟩
  ·exact h
end Av
namespace Sb
open Go.RowKit Go.Sort Rw YtkcfgbddlpomgaaGreat.Nm Pr Bk Av
abbrev kg (m:List En):Prop:=m.Pairwise fun x y=>xE x y<0
def jD (m:List En) (t:eG):Nat:=(m.takeWhile fun e=>dZ e.tree t).length
def qF (m:List En) (t:eG):List En:=(m.drop (jD m t)).takeWhile fun e=>decide (e.tree=t)
def Sj (r:List En) (p:List C5):Bool:=r.any fun e=>e.up && mF e.p p
theorem zu:∀ (l:List eG) (x:eG),fD l x=iK l x
 | [],_=>rfl
 | a::l,x=>by rw [fD,iK,zu l x]
theorem qb (x y:En):jc (fu x) (fu y)=Q↔xE x y<0:=by
 rw [sN];unfold jc;simp [xS]
theorem wK (x:eG×eG):jc x x=aD:=by simp [jc,j5]
def qU (m:List En) (t s:eG):Bool:=match m[eH (m.map fu) (t,s)]? with
 | none=>aD
 | some e=>decide (fu e=(t,s))
theorem qd:∀ (l:List (eG×eG)) (x:eG×eG) (j:Nat) (y:eG×eG),j<eH l x->l[j]?=some y->jc y x=Q
 | [],_,_,_,_,h=>by simp at h
 | a::l,x,j,y,hj,h=>by
  unfold eH at hj;by_cases ha:jc a x=Q
  ·rw [O,if_pos ha,au] at hj;cases j with
   | zero=>rw [<- J (show some a=some y from h)]; exact ha
   | succ j=>exact qd l x j y (by unfold eH; omega) (by simpa using h)
  ·rw [O,if_neg ha] at hj;simp at hj
theorem wL:∀ (l:List (eG×eG)) (x y:eG×eG),l[eH l x]?=some y->jc y x=aD
 | [],_,_,h=>by simp [eH] at h
 | a::l,x,y,h=>by
  unfold eH at h;by_cases ha:jc a x=Q
  ·rw [O,if_pos ha,au] at h;exact wL l x y (by unfold eH; simpa using h)
  ·rw [O,if_neg ha] at h;rw [<- J (show some a=some y from h)];simpa using ha
theorem JK {m:List En} (hr:kg m) (t s:eG):iK (m.map fu) (t,s)=if qU m t s=Q then (eH (m.map fu) (t,s):Int) else -1:=by
 unfold qU;cases hp:m[eH (m.map fu) (t,s)]? with
 | none =>
  rw [if_neg (by simp)];refine tZ _ _ fun j y hj e=>?_;have hl:m.length<=eH (m.map fu) (t,s):=List.getElem?_eq_none_iff.1 hp;have hj2:=(D.1 hj).1;rw [List.length_map] at hj2;have h:=qd _ (t,s) j y (by omega) hj;rw [e,wK] at h;cases h
 | some e =>
  have hpk:(m.map fu)[eH (m.map fu) (t,s)]?=some (fu e):=by rw [Z,hp]; rfl
  by_cases he:fu e=(t,s)
  ·simp only [he,decide_true,if_true];rw [he] at hpk;refine FT _ _ _ hpk fun j z hj hz q=>?_;have h:=qd _ (t,s) j z hj hz;rw [q,wK] at h;cases h
  ·rw [if_neg (by simpa using he)];refine tZ _ _ fun j y hj q=>?_;rcases Nat.lt_trichotomy j (eH (m.map fu) (t,s)) with h|h|h
   ·have h:=qd _ (t,s) j y h hj;rw [q,wK] at h;cases h
   ·subst h;rw [hpk] at hj;exact he ((J hj).trans q)
   ·rw [Z] at hj;cases hz:m[j]? with
    | none=>rw [hz] at hj; cases hj
    | some z =>
     rw [hz] at hj;have h1:=List.pairwise_iff_getElem.1 hr _ _ (D.1 hp).1 (D.1 hz).1 h;rw [(D.1 hp).2,(D.1 hz).2,<- qb] at h1;have h2:=wL _ _ _ hpk;rw [show fu z=(t,s) from (J hj).trans q] at h1;rw [h1] at h2;cases h2
theorem Le {x y:En} (h:xE x y<0):dZ x.tree y.tree=Q\/x.tree=y.tree:=by
 rcases (sN x y).1 h with q|q
 ·exact aA q
 ·exact ay q.1
theorem zw {α:Type} (p:α->Bool):∀ l:List α,l.drop (l.takeWhile p).length=l.dropWhile p
 | []=>rfl
 | a::l=>by
  by_cases h:p a=Q
  ·simp [h,zw p l]
  ·simp [h]
theorem JL:∀ {m:List En} (t:eG) (_:kg m),∀ e∈m.dropWhile (fun e=>dZ e.tree t),dZ e.tree t=aD
 | [],_,_,e,h=>by simp at h
 | a::m,t,hr,e,h=>by
  have hr':=K.1 hr;by_cases ha:dZ a.tree t=Q
  ·rw [V,if_pos ha] at h;exact JL t hr'.2 e h
  ·rw [V,if_neg ha] at h;rcases X.1 h with rfl|h
   ·simpa using ha
   ·cases hq:dZ e.tree t with
    | false=>rfl
    | true =>
     exfalso;rcases Le (hr'.1 e h) with q|q
     ·exact ha (iw q hq)
     ·exact ha (by rw [q]; exact hq)
theorem Sk:∀ {m:List En} (t:eG) (_:kg m) (_:∀ e∈m,dZ e.tree t=aD),∀ e∈m.dropWhile (fun e=>decide (e.tree=t)),dZ t e.tree=Q
 | [],_,_,_,e,h=>by simp at h
 | a::m,t,hr,hl,e,h=>by
  have hr':=K.1 hr;by_cases ha:a.tree=t
  ·rw [V,if_pos (by simpa using ha)] at h;exact Sk t hr'.2 (fun e he=>hl e (aF _ he)) e h
  ·rw [V,if_neg (by simpa using ha)] at h;have hta:dZ t a.tree=Q:=by
    rcases oJ a.tree t with q|q|q
    ·rw [hl a (by simp)] at q; cases q
    ·exact absurd q ha
    ·exact q
   rcases X.1 h with rfl|h
   ·exact hta
   ·rcases Le (hr'.1 e h) with q|q
    ·exact iw hta q
    ·rw [<- q]; exact hta
theorem Lf {x t:eG} (h:dZ x t=Q):x≠t:=by rintro rfl; rw [j5] at h; cases h
theorem Sm {m:List En} (hr:kg m) (t:eG):∃ c,m=m.take (jD m t)++qF m t++c/\(m.take (jD m t)).length=jD m t/\(∀ e∈m.take (jD m t),e.tree≠t)/\(∀ e∈qF m t,e.tree=t)/\(∀ e∈c,e.tree≠t):=by
 have e1:m.take (jD m t)=m.takeWhile fun e=>dZ e.tree t:=by
  unfold jD
  conv=>lhs; arg 2; rw [<- ah (p:=fun e:En=>dZ e.tree t) (l:=m)]
  rw [List.take_left]
 have e2:m.drop (jD m t)=m.dropWhile fun e=>dZ e.tree t:=zw _ _;refine⟨(m.drop (jD m t)).dropWhile fun e=>decide (e.tree=t),?_,?_,?_,?_,?_⟩
 ·unfold qF;rw [aJ,ah,aj]
 ·rw [e1]; rfl
 ·rw [e1];intro e he;exact Lf (aB.1 aH e he)
 ·intro e he;unfold qF at he;exact of_decide_eq_true (aB.1 (aH (p:=fun e:En=>decide (e.tree=t))) e he)
 ·rw [e2];intro e he;have h1:kg (m.dropWhile fun e=>dZ e.tree t):=hr.sublist (List.dropWhile_sublist _);exact (Lf (Sk t h1 (JL t hr) e he)).symm
theorem Gz {α:Type} {p:α->Bool} {l:List α} (h:∀ e∈l,p e=aD):l.filter p=[]:=by
 rw [List.filter_eq_nil_iff];intro e he;rw [h e he];simp
theorem nJ {m:List En} (hr:kg m) (t:eG):qF m t=m.filter fun e=>decide (e.tree=t):=by
 obtain⟨c,h1,_,h2,h3,h4⟩:=Sm hr t;generalize qF m t=r at *;generalize m.take (jD m t)=a at *;subst h1;rw [aI,aI,Gz (l:=a) fun e he=>by simpa using h2 e he,Gz (l:=c) fun e he=>by simpa using h4 e he,List.nil_append,List.append_nil];exact (List.filter_eq_self.2 fun e he=>by simpa using h3 e he).symm
theorem aa5 {m:List En} (hr:kg m) (t:eG) (p:List C5):Sj (qF m t) p=eU m t p:=by
 rw [nJ hr,Sj,List.any_filter]
 rfl
theorem JM {m:List En} (hr:kg m) (t:eG) (e:En):e∈qF m t↔e∈m/\e.tree=t:=by
 rw [nJ hr,L,decide_eq_true_eq]
def gY (b:Br):Prop:=∀ a∈b.dM,a.par≠-1->∀ e∈b.ent,e.tree=a.id->e.up=aD->eU b.ent a.id e.p=Q
theorem mG (m:List En) (t:eG) (p:List C5):eU m t p=Q↔∃ e∈m,e.tree=t/\e.up=Q/\mF e.p p=Q:=by
 unfold eU;rw [List.any_eq_true];simp [QO]
theorem GD {b:Br} (h:jB b) (a:Ad) (ht:gY b):gY (fC b a).1:=by
 by_cases hin:a.id∈b.seen
 ·rw [wI hin]; exact ht
 ·rw [uo hin];intro y hy hp e he hte hu;rcases (jI _ _ _ _).1 hy with rfl|hy
  ·exfalso;have hk:=h.Ld e he;unfold uS at hk;cases hf:fP b.dM e.tree with
   | none=>rw [hf] at hk; cases hk
   | some z =>
    obtain⟨z1,z2⟩:=nW hf;exact hin (by rw [<- hte,<- z2]; exact (h.oks z z1).1)
  ·exact ht y hy hp e he hte hu
theorem Ee {b:Br} (x:eG) (f:Int) (ht:gY b):gY (sK b x f).1:=by
 unfold sK;cases fP b.dM x with
 | none=>exact ht
 | some a =>
  simp only
  split
  ·intro y hy hp e he hte hu;have hy':=L.1 hy;have he':=L.1 he;obtain⟨z,h1,h2,h3,h4⟩:=(mG _ _ _).1 (ht y hy'.1 hp e he'.1 hte hu);refine (mG _ _ _).2 ⟨z,L.2 ⟨h1,?_⟩,h2,h3,h4⟩;rw [h2];exact hy'.2
  ·exact ht
theorem CG {b:Br} (h:jB b) (e:En) (ht:gY b):gY (gP b e).1:=by
 unfold gP
 split
 ·exact ht
 ·rename_i a ha
  split
  ·exact ht
  ·rename_i h1
   split
   ·exact ht
   ·split
    ·exact ht
    ·have hid:a.id=e.tree:=by
      rcases mJ (b.dM.map Ad.id) e.tree with q|⟨k,q,r⟩
      ·exact absurd (zu _ _ ▸ q) h1
      ·rw [zu,q,Int.toNat_natCast] at ha;rw [Z,ha] at r;exact J r
     have hA:a∈b.dM:=List.mem_of_getElem? ha;intro y hy hp z hz hte hu;have more:∀ p,eU b.ent y.id p=Q->eU (fM b.ent (eH (b.ent.map fu) (fu e)) { e with up:=decide (a.par≠-1) && !eU b.ent e.tree e.p }) y.id p=Q:=fun p hp=>by
      obtain⟨q,q1,q2⟩:=(mG _ _ _).1 hp;exact (mG _ _ _).2 ⟨q,(jI _ _ _ _).2 (ay q1),q2⟩
     rcases (jI _ _ _ _).1 hz with rfl|hz
     ·have hya:y=a:=by
       have g1:=nX h.dM hA;have g2:=nX h.dM hy;rw [show y.id=a.id from hte.symm.trans hid.symm,g1] at g2;exact (J g2).symm
      have hu':(decide (a.par≠-1) && !eU b.ent e.tree e.p)=aD:=hu;rw [<- hya,decide_eq_true hp,aK] at hu';refine more _ ?_;rw [<- show e.tree=y.id from hte];simpa using hu'
     ·exact more _ (ht y hy hp z hz hte hu)
theorem zx {α:Type} {l:List α} {k:Nat} {x y:α} (hk:l[k]?=some x) (hy:y∈l):y=x\/y∈cutAt l k:=by
 have hlt:=(D.1 hk).1;have e:l=l.take k++x::l.drop (k+1):=by
  conv=>lhs; rw [<- aj k l]
  rw [List.drop_eq_getElem_cons hlt,(D.1 hk).2]
 rw [e] at hy;unfold cutAt;rcases Y.1 hy with h|h
 ·exact ay (List.mem_append_left _ h)
 ·rcases X.1 h with h|h
  ·exact aA h
  ·exact ay (List.mem_append_right _ h)
theorem Lg {α:Type} {l:List α} {k:Nat} {y:α} (h:y∈cutAt l k):y∈l:=by
 unfold cutAt at h;rcases Y.1 h with h|h
 ·exact List.mem_of_mem_take h
 ·exact List.mem_of_mem_drop h
theorem WO {α:Type} {l:List α} {k:Nat} {x y z:α} (hk:l[k]?=some x) (hz:z∈l):z=x\/z∈l.set k y:=by
 obtain⟨j,hj⟩:=U.1 hz;by_cases hjk:k=j
 ·subst hjk;rw [hk] at hj;exact aA (J hj).symm
 ·right;refine U.2 ⟨j,?_⟩;rw [List.getElem?_set_ne hjk];exact hj
theorem GH {t:eG} {s:List En×List En} {k:Nat} (u:eG) (p:List C5) (h:eU s.1 u p=Q):eU (ig t s k).1 u p=Q:=by
 unfold ig
 split
 ·exact h
 ·rename_i e he
  split
  ·obtain⟨z,h1,h2,h3,h4⟩:=(mG _ _ _).1 h;rcases WO (y:=Vw e) he h1 with rfl|h5
   ·rename_i hq
    rw [hq.2.1] at h3;cases h3
   ·exact (mG _ _ _).2 ⟨z,h5,h2,h3,h4⟩
  ·exact h
theorem CJ (t:eG) (m:List En):∀ k,k<=m.length->(∀ j,j<k->∀ e,(iL t m k).1[j]?=some e->e.tree=t->e.up=aD->eU (iL t m k).1 t e.p=Q)/\(∀ u p,eU m u p=Q->eU (iL t m k).1 u p=Q)/\(∀ e,e∈(iL t m k).1->e.tree≠t->e∈m)
 | 0,_=>⟨fun j hj=>absurd hj (Nat.not_lt_zero _),fun _ _ h=>h,fun _ h _=>h⟩
 | k+1,hk=>by
  obtain⟨h1,h2,h3⟩:=CJ t m k (by omega);rw [lZ];refine⟨fun j hj e he htr hu=>?_,fun u p h=>GH u p (h2 u p h),fun e he hne=>?_⟩
  ·have hl:=(nI t m k).1;generalize iL t m k=s at *;obtain⟨z,hz⟩:∃ z,s.1[k]?=some z:=⟨_,List.getElem?_eq_getElem (by omega)⟩;by_cases hc:z.tree=t/\z.up=aD/\eU s.1 t z.p=aD
   ·have e1:ig t s k=(s.1.set k (Vw z),s.2++[Vw z]):=by unfold ig; rw [hz]; simp only; rw [if_pos hc]
    have mono:=GH (t:=t) (s:=s) (k:=k) t;rw [e1] at he mono ⊢;rw [List.getElem?_set] at he
    split at he
    ·split at he
     ·rw [<- J he] at hu;cases hu
     ·cases he
    ·exact mono _ (h1 j (by omega) e he htr hu)
   ·have e1:ig t s k=s:=by unfold ig; rw [hz]; simp only; rw [if_neg hc]
    rw [e1] at he ⊢;rcases Nat.lt_or_ge j k with h0|h0
    ·exact h1 j h0 e he htr hu
    ·obtain rfl:j=k:=by omega
     rw [hz] at he;obtain rfl:=J he;cases hv:eU s.1 t z.p with
     | true=>rfl
     | false=>exact absurd ⟨htr,hu,hv⟩ hc
  ·unfold ig at he
   split at he
   ·exact h3 e he hne
   ·rename_i z hz
    split at he
    ·rename_i hq
     rcases List.mem_or_eq_of_mem_set he with h5|h5
     ·exact h3 e h5 hne
     ·rw [h5] at hne;exact absurd hq.1 hne
    ·exact h3 e he hne
theorem zy {b:Br} (t x:eG) (f:Int) (ht:gY b):gY (takeB b t x f).1:=by
 unfold takeB
 split
 ·exact ht
 ·rename_i e0 he0
  split
  ·exact ht
  ·rename_i h1
   split
   ·exact ht
   ·have h5:e0.tree=t:=by
     rcases mJ (b.ent.map fu) (t,x) with q|⟨k,q,r⟩
     ·exact absurd q h1
     ·rw [q,Int.toNat_natCast] at he0;rw [Z,he0] at r;exact congrArg Prod.fst (J r)
    generalize (iK (b.ent.map fu) (t,x)).toNat=k at *
    split
    ·rename_i hup
     intro y hy hp z hz hte hu;obtain⟨q,q1,q2,q3,q4⟩:=(mG _ _ _).1 (ht y hy hp z (Lg hz) hte hu);refine (mG _ _ _).2 ⟨q,(zx he0 q1).resolve_left ?_,q2,q3,q4⟩;rintro rfl;rw [hup] at q3;cases q3
    ·intro y hy hp z hz hte hu;obtain⟨g1,g2,g3⟩:=CJ t (cutAt b.ent k) (cutAt b.ent k).length (Nat.le_refl _);by_cases hyt:y.id=t
     ·obtain⟨j,hj⟩:=U.1 hz;have hlt:=(D.1 hj).1;rw [(nI t (cutAt b.ent k) _).1] at hlt;rw [hyt] at hte ⊢;exact g1 j hlt z hj hte hu
     ·have hzt:z.tree≠t:=by rw [hte]; exact hyt
      obtain⟨q,q1,q2,q3,q4⟩:=(mG _ _ _).1 (ht y hy hp z (Lg (g3 z hz hzt)) hte hu);refine g2 _ _ ((mG _ _ _).2 ⟨q,(zx he0 q1).resolve_left ?_,q2,q3,q4⟩);rintro rfl;exact hyt (q2.symm.trans h5)
end Sb
end Go.Proofs.YtkcfgbddlpomgaaGreat
