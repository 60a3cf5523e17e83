/-
  rightEntry of packag. Conditions as told.
-/
import Derived.Test.YtkcfgbddlpomgaaGreatDQ031
import Derived.Test.YtkcfgbddlpomgaaGreatDQ032
import Derived.Test.YtkcfgbddlpomgaaGreatDQ022
set_option maxRecDepth 100000
set_option maxHeartbeats 64000000
open _root_.Bool renaming true->Q,and_eq_true->ak,false->aD,true_and->aK
open _root_.List renaming getElem?_eq_some_iff->D,pairwise_cons->K,mem_filter->L,takeWhile_cons->O,mem_iff_getElem?->U,dropWhile_cons->V,mem_cons->X,mem_append->Y,getElem?_map->Z,takeWhile_append_dropWhile->ah,take_append_drop->aj,length_cons->au,all_eq_true->aB,singleton_append->aC,mem_cons_of_mem->aF,filter_sublist->aG,all_takeWhile->aH,filter_append->aI,append_assoc->aJ
open Option.some renaming inj->J
open _root_.Or renaming inr->ay,inl->aA
namespace Go.Proofs.YtkcfgbddlpomgaaGreat
namespace Av
open Go.RowKit Go.Sort Rw YtkcfgbddlpomgaaGreat.Nm Pr Bk
def wS (b:Br) (e:En):Bool:=match fV b.dO e.tree with
 | none=>aD
 | some a=>!(e.from_ == a.par && !(a.par == -1)) && (jR b.near e.from_ && (!(e.up && a.par == -1) && Wr.iX e.p))
abbrev cAd (a b:Ad):Int:=lq a.id b.id
abbrev xS (a b:En):Int:=P8 (lq a.tree b.tree) (lq a.sub b.sub)
abbrev cOw (a b:Ow):Int:=lq a.id b.id
def adX (b:Br):Bool:=qO oh b.near && (qO lq b.seen && (qO cAd b.dO && (qO xS b.ent && (qO cOw b.own && (b.dO.all (abk b) && (b.ent.all (wS b) && b.own.all (fun o=>Wr.iX o.p)))))))
theorem mh {α:Type} {c:α->α->Int} (ht:∀ x y z,c x y<0->c y z<0->c x z<0):∀ {l:List α},qO c l=Q->l.Pairwise fun x y=>c x y<0
 | [],_=>List.Pairwise.nil
 | [x],_=>List.pairwise_singleton _ _
 | x::y::l,h=>by
  unfold qO at h;rw [ak] at h;have ih:=mh ht h.2;have hxy:c x y<0:=of_decide_eq_true h.1;refine K.2 ⟨fun z hz=>?_,ih⟩;rcases X.1 hz with rfl|hz
  ·exact hxy
  ·exact ht x y z hxy ((K.1 ih).1 z hz)
theorem nH {x y:eO}:lq x y<0↔eu x y=Q:=rG x y
theorem EZ (x y z:eO) (h1:lq x y<0) (h2:lq y z<0):lq x z<0:=nH.2 (iB (nH.1 h1) (nH.1 h2))
theorem OM {l:List eO} (h:qO lq l=Q):GU l:=(mh EZ h).imp fun {_a _b} q=>nH.1 q
theorem Tc {l:List Ad} (h:qO cAd l=Q):rO l:=(mh (fun x y z=>EZ x.id y.id z.id) h).imp fun {_a _b} q=>nH.1 q
theorem pW {α:Type} {c:α->α->Int}:∀ {l:List α},(l.Pairwise fun x y=>c x y<0)->qO c l=Q
 | [],_=>rfl
 | [_],_=>rfl
 | x::y::l,h=>by
  have h1:=K.1 h;unfold qO;rw [decide_eq_true (h1.1 y (by simp)),aK];exact pW h1.2
theorem Xh (x y z:Int) (h1:oh x y<0) (h2:oh y z<0):oh x z<0:=by rw [rF] at *; omega
theorem sP (a b:En):xS a b<0↔(eu a.tree b.tree=Q\/(a.tree=b.tree/\eu a.sub b.sub=Q)):=by
 unfold xS P8;by_cases h:lq a.tree b.tree=0
 ·rw [if_pos h,rG];have e:=(sJ _ _).1 h;constructor
  ·exact fun q=>ay ⟨e,q⟩
  ·rintro (q|⟨_,q⟩)
   ·rw [e,j6] at q; cases q
   ·exact q
 ·rw [if_neg h,rG];constructor
  ·exact aA
  ·rintro (q|⟨q,_⟩)
   ·exact q
   ·exact absurd ((sJ _ _).2 q) h
theorem E5 (x y z:En) (h1:xS x y<0) (h2:xS y z<0):xS x z<0:=by
 rw [sP] at *;rcases h1 with h1|⟨e1,h1⟩ <;> rcases h2 with h2|⟨e2,h2⟩
 ·exact aA (iB h1 h2)
 ·exact aA (by rw [<- e2]; exact h1)
 ·exact aA (by rw [e1]; exact h2)
 ·exact ay ⟨e1.trans e2,iB h1 h2⟩
structure jC (b:Br):Prop where
 near:b.near.Pairwise (·<·)
 seen:GU b.seen
 dO:rO b.dO
 ent:b.ent.Pairwise fun x y=>xS x y<0
 own:ko Ow.id b.own
 oks:∀ a∈b.dO,a.id∈b.seen/\jR b.near a.par=Q/\Wr.iX a.p=Q
 LK:∀ e∈b.ent,wS b e=Q
 Xi:∀ o∈b.own,Wr.iX o.p=Q
theorem zC (b:Br):adX b=Q↔jC b:=by
 unfold adX;simp only [ak,aB];constructor
 ·rintro⟨h1,h2,h3,h4,h5,h6,h7,h8⟩;refine⟨(mh Xh h1).imp fun {a b} q=>(rF a b).1 q,OM h2,Tc h3,mh E5 h4,(mh (fun x y z=>EZ x.id y.id z.id) h5).imp fun {a b} q=>nH.1 q,fun a ha=>?_,h7,h8⟩;have:=h6 a ha;unfold abk at this;simp only [ak,decide_eq_true_eq] at this;exact this
 ·rintro⟨h1,h2,h3,h4,h5,h6,h7,h8⟩;refine⟨pW (h1.imp fun {a b} q=>(rF a b).2 q),pW (h2.imp fun {a b} q=>nH.2 q),pW (h3.imp fun {a b} q=>nH.2 q),pW h4,pW (h5.imp fun {a b} q=>nH.2 q),fun a ha=>?_,h7,h8⟩;unfold abk;simp only [ak,decide_eq_true_eq];exact h6 a ha
theorem jK {α:Type} (l:List α) (k:Nat) (x y:α):y∈fP l k x↔y=x\/y∈l:=by
 unfold fP;rw [Y,Y,List.mem_singleton]
 conv=>rhs; rw [<- aj k l,Y]
 constructor
 ·rintro ((h|h)|h)
  ·exact ay (aA h)
  ·exact aA h
  ·exact ay (ay h)
 ·rintro (h|h|h)
  ·exact aA (ay h)
  ·exact aA (aA h)
  ·exact ay h
theorem Ht {α:Type} (key:α->eO):∀ (l:List α) (x:eO),∀ y∈l.take (gF key l x),eu (key y) x=Q
 | [],_,y,h=>by simp at h
 | a::l,x,y,h=>by
  unfold gF at h;by_cases ha:eu (key a) x=Q
  ·simp only [O,ha,if_true,au,List.take_succ_cons,X] at h;rcases h with rfl|h
   ·exact ha
   ·exact Ht key l x y h
  ·simp [ha] at h
theorem vg {α:Type} {key:α->eO}:∀ {l:List α} (_:ko key l) (x:eO) (_:∀ y∈l,key y≠x),∀ y∈l.drop (gF key l x),eu x (key y)=Q
 | [],_,_,_,y,h=>by simp at h
 | a::l,hr,x,hn,y,h=>by
  unfold gF at h;have hr':=K.1 hr;by_cases ha:eu (key a) x=Q
  ·simp only [O,ha,if_true,au,List.drop_succ_cons] at h;exact vg hr'.2 x (fun y hy=>hn y (aF _ hy)) y h
  ·simp [ha] at h;have hax:eu x (key a)=Q:=by
    rcases oC (key a) x with q|q|q
    ·exact absurd q ha
    ·exact absurd q (hn a (by simp))
    ·exact q
   rcases h with rfl|h
   ·exact hax
   ·exact iB hax (hr'.1 y h)
theorem jU {α:Type} {key:α->eO} {l:List α} (hr:ko key l) (x:α) (hn:∀ y∈l,key y≠key x):ko key (fP l (gF key l (key x)) x):=by
 unfold fP;have h1:ko key (l.take (gF key l (key x))):=hr.sublist (List.take_sublist _ _);have h2:ko key (l.drop (gF key l (key x))):=hr.sublist (List.drop_sublist _ _);have lo:=Ht key l (key x);have hi:=vg hr (key x) hn;unfold ko at *;rw [aJ,List.pairwise_append];refine⟨h1,?_,fun a ha b hb=>?_⟩
 ·rw [aC,K];exact⟨fun b hb=>hi b hb,h2⟩
 ·rw [aC,X] at hb;rcases hb with rfl|hb
  ·exact lo a ha
  ·exact iB (lo a ha) (hi b hb)
theorem nW {l:List Ad} {x:eO} {a:Ad} (h:fV l x=some a):a∈l/\a.id=x:=by
 unfold fV at h;exact⟨List.mem_of_find?_eq_some h,by simpa using List.find?_some h⟩
theorem nX {l:List Ad} (hr:rO l) {a:Ad} (ha:a∈l):fV l a.id=some a:=by
 obtain⟨k,hk⟩:=U.1 ha;refine rM hk rfl fun j z hj hz e=>?_;have:=mK hr hj hz hk;rw [e,j6] at this;cases this
theorem Hu {l m:List Ad} (hl:rO l) (hm:rO m) {x:eO} (h:∀ a,a.id=x->(a∈l↔a∈m)):fV l x=fV m x:=by
 cases h1:fV l x with
 | none =>
  cases h2:fV m x with
  | none=>rfl
  | some a =>
   obtain⟨q1,q2⟩:=nW h2;have:=nX hl ((h a q2).2 q1);rw [q2,h1] at this;cases this
 | some a =>
  obtain⟨q1,q2⟩:=nW h1;have:=nX hm ((h a q2).1 q1);rw [q2] at this;exact this.symm
theorem qK {b c:Br} {e:En} (hn:c.near=b.near) (hf:fV c.dO e.tree=fV b.dO e.tree) (h:wS b e=Q):wS c e=Q:=by
 unfold wS at *;rw [hf,hn];exact h
theorem Hw {b:Br} (h:jC b) (a:Ad) (hp:jR b.near a.par=Q) (hq:Wr.iX a.p=Q):jC (fF b a).1:=by
 by_cases hin:a.id∈b.seen
 ·rw [wO hin]; exact h
 ·rw [uq hin];have hna:∀ y∈b.dO,y.id≠a.id:=fun y hy e=>hin (by rw [<- e]; exact (h.oks y hy).1);have hns:∀ y∈b.seen,y≠a.id:=fun y hy e=>hin (by rw [<- e]; exact hy);have ra:rO (fP b.dO (fH (b.dO.map Ad.id) a.id) a):=by
   rw [<- iV];exact jU h.dO a hna
  have rs:GU (fP b.seen (fH b.seen a.id) a.id):=by
   have:=jU (key:=fun x:eO=>x) h.seen a.id hns;rw [iV,List.map_id'] at this;exact this
  refine⟨h.near,rs,ra,h.ent,h.own,fun y hy=>?_,fun e he=>?_,h.Xi⟩
  ·rcases (jK _ _ _ _).1 hy with rfl|hy
   ·exact⟨(jK _ _ _ _).2 (aA rfl),hp,hq⟩
   ·exact⟨(jK _ _ _ _).2 (ay (h.oks y hy).1),(h.oks y hy).2⟩
  ·refine qK (b:=b) rfl (Hu ra h.dO fun y hy=>?_) (h.LK e he);rw [jK];refine⟨fun q=>q.resolve_left fun e2=>?_,ay⟩;have hk:=h.LK e he;unfold wS at hk;cases hf:fV b.dO e.tree with
   | none=>rw [hf] at hk; cases hk
   | some z =>
    obtain⟨z1,z2⟩:=nW hf;exact hna z z1 (by rw [z2,<- hy,e2])
theorem OQ {b:Br} (h:jC b) (x:eO) (f:Int):jC (sN b x f).1:=by
 unfold sN;cases fV b.dO x with
 | none=>exact h
 | some a =>
  simp only
  split
  ·have ra:rO (b.dO.filter fun e=>decide (e.id≠x)):=h.dO.sublist aG;refine⟨h.near,h.seen,ra,h.ent.sublist aG,h.own,fun y hy=>h.oks y ((L.1 hy).1),fun e he=>?_,h.Xi⟩;have ht:e.tree≠x:=of_decide_eq_true (L.1 he).2;refine qK (b:=b) rfl (Hu ra h.dO fun y hy=>?_) (h.LK e (L.1 he).1);rw [L];exact⟨fun q=>q.1,fun q=>⟨q,decide_eq_true (by rw [hy]; exact ht)⟩⟩
  ·exact h
end Av
namespace Sb
open Go.RowKit Go.Sort Rw YtkcfgbddlpomgaaGreat.Nm Pr Bk Av
abbrev kG (m:List En):Prop:=m.Pairwise fun x y=>xS x y<0
def jE (m:List En) (t:eO):Nat:=(m.takeWhile fun e=>eu e.tree t).length
def qY (m:List En) (t:eO):List En:=(m.drop (jE m t)).takeWhile fun e=>decide (e.tree=t)
def Td (r:List En) (p:List C5):Bool:=r.any fun e=>e.up && mF e.p p
theorem zD:∀ (l:List eO) (x:eO),fG l x=iL l x
 | [],_=>rfl
 | a::l,x=>by rw [fG,iL,zD l x]
theorem pX (x y:En):je (fB x) (fB y)=Q↔xS x y<0:=by
 rw [sP];unfold je;simp [xY]
theorem wT (x:eO×eO):je x x=aD:=by simp [je,j6]
def qL (m:List En) (t s:eO):Bool:=match m[eP (m.map fB) (t,s)]? with
 | none=>aD
 | some e=>decide (fB e=(t,s))
theorem pY:∀ (l:List (eO×eO)) (x:eO×eO) (j:Nat) (y:eO×eO),j<eP l x->l[j]?=some y->je y x=Q
 | [],_,_,_,_,h=>by simp at h
 | a::l,x,j,y,hj,h=>by
  unfold eP at hj;by_cases ha:je a x=Q
  ·rw [O,if_pos ha,au] at hj;cases j with
   | zero=>rw [<- J (show some a=some y from h)]; exact ha
   | succ j=>exact pY l x j y (by unfold eP; omega) (by simpa using h)
  ·rw [O,if_neg ha] at hj;simp at hj
theorem wU:∀ (l:List (eO×eO)) (x y:eO×eO),l[eP l x]?=some y->je y x=aD
 | [],_,_,h=>by simp [eP] at h
 | a::l,x,y,h=>by
  unfold eP at h;by_cases ha:je a x=Q
  ·rw [O,if_pos ha,au] at h;exact wU l x y (by unfold eP; simpa using h)
  ·rw [O,if_neg ha] at h;rw [<- J (show some a=some y from h)];simpa using ha
theorem J2 {m:List En} (hr:kG m) (t s:eO):iL (m.map fB) (t,s)=if qL m t s=Q then (eP (m.map fB) (t,s):Int) else -1:=by
 unfold qL;cases hp:m[eP (m.map fB) (t,s)]? with
 | none =>
  rw [if_neg (by simp)];refine uh _ _ fun j y hj e=>?_;have hl:m.length<=eP (m.map fB) (t,s):=List.getElem?_eq_none_iff.1 hp;have hj2:=(D.1 hj).1;rw [List.length_map] at hj2;have h:=pY _ (t,s) j y (by omega) hj;rw [e,wT] at h;cases h
 | some e =>
  have hpk:(m.map fB)[eP (m.map fB) (t,s)]?=some (fB e):=by rw [Z,hp]; rfl
  by_cases he:fB e=(t,s)
  ·simp only [he,decide_true,if_true];rw [he] at hpk;refine Gp _ _ _ hpk fun j z hj hz q=>?_;have h:=pY _ (t,s) j z hj hz;rw [q,wT] at h;cases h
  ·rw [if_neg (by simpa using he)];refine uh _ _ fun j y hj q=>?_;rcases Nat.lt_trichotomy j (eP (m.map fB) (t,s)) with h|h|h
   ·have h:=pY _ (t,s) j y h hj;rw [q,wT] at h;cases h
   ·subst h;rw [hpk] at hj;exact he ((J hj).trans q)
   ·rw [Z] at hj;cases hz:m[j]? with
    | none=>rw [hz] at hj; cases hj
    | some z =>
     rw [hz] at hj;have h1:=List.pairwise_iff_getElem.1 hr _ _ (D.1 hp).1 (D.1 hz).1 h;rw [(D.1 hp).2,(D.1 hz).2,<- pX] at h1;have h2:=wU _ _ _ hpk;rw [show fB z=(t,s) from (J hj).trans q] at h1;rw [h1] at h2;cases h2
theorem LW {x y:En} (h:xS x y<0):eu x.tree y.tree=Q\/x.tree=y.tree:=by
 rcases (sP x y).1 h with q|q
 ·exact aA q
 ·exact ay q.1
theorem zF {α:Type} (p:α->Bool):∀ l:List α,l.drop (l.takeWhile p).length=l.dropWhile p
 | []=>rfl
 | a::l=>by
  by_cases h:p a=Q
  ·simp [h,zF p l]
  ·simp [h]
theorem J3:∀ {m:List En} (t:eO) (_:kG m),∀ e∈m.dropWhile (fun e=>eu e.tree t),eu e.tree t=aD
 | [],_,_,e,h=>by simp at h
 | a::m,t,hr,e,h=>by
  have hr':=K.1 hr;by_cases ha:eu a.tree t=Q
  ·rw [V,if_pos ha] at h;exact J3 t hr'.2 e h
  ·rw [V,if_neg ha] at h;rcases X.1 h with rfl|h
   ·simpa using ha
   ·cases hq:eu e.tree t with
    | false=>rfl
    | true =>
     exfalso;rcases LW (hr'.1 e h) with q|q
     ·exact ha (iB q hq)
     ·exact ha (by rw [q]; exact hq)
theorem Te:∀ {m:List En} (t:eO) (_:kG m) (_:∀ e∈m,eu e.tree t=aD),∀ e∈m.dropWhile (fun e=>decide (e.tree=t)),eu t e.tree=Q
 | [],_,_,_,e,h=>by simp at h
 | a::m,t,hr,hl,e,h=>by
  have hr':=K.1 hr;by_cases ha:a.tree=t
  ·rw [V,if_pos (by simpa using ha)] at h;exact Te t hr'.2 (fun e he=>hl e (aF _ he)) e h
  ·rw [V,if_neg (by simpa using ha)] at h;have hta:eu t a.tree=Q:=by
    rcases oC a.tree t with q|q|q
    ·rw [hl a (by simp)] at q; cases q
    ·exact absurd q ha
    ·exact q
   rcases X.1 h with rfl|h
   ·exact hta
   ·rcases LW (hr'.1 e h) with q|q
    ·exact iB hta q
    ·rw [<- q]; exact hta
theorem LY {x t:eO} (h:eu x t=Q):x≠t:=by rintro rfl; rw [j6] at h; cases h
theorem Tf {m:List En} (hr:kG m) (t:eO):∃ c,m=m.take (jE m t)++qY m t++c/\(m.take (jE m t)).length=jE m t/\(∀ e∈m.take (jE m t),e.tree≠t)/\(∀ e∈qY m t,e.tree=t)/\(∀ e∈c,e.tree≠t):=by
 have e1:m.take (jE m t)=m.takeWhile fun e=>eu e.tree t:=by
  unfold jE
  conv=>lhs; arg 2; rw [<- ah (p:=fun e:En=>eu e.tree t) (l:=m)]
  rw [List.take_left]
 have e2:m.drop (jE m t)=m.dropWhile fun e=>eu e.tree t:=zF _ _;refine⟨(m.drop (jE m t)).dropWhile fun e=>decide (e.tree=t),?_,?_,?_,?_,?_⟩
 ·unfold qY;rw [aJ,ah,aj]
 ·rw [e1]; rfl
 ·rw [e1];intro e he;exact LY (aB.1 aH e he)
 ·intro e he;unfold qY at he;exact of_decide_eq_true (aB.1 (aH (p:=fun e:En=>decide (e.tree=t))) e he)
 ·rw [e2];intro e he;have h1:kG (m.dropWhile fun e=>eu e.tree t):=hr.sublist (List.dropWhile_sublist _);exact (LY (Te t h1 (J3 t hr) e he)).symm
theorem Hy {α:Type} {p:α->Bool} {l:List α} (h:∀ e∈l,p e=aD):l.filter p=[]:=by
 rw [List.filter_eq_nil_iff];intro e he;rw [h e he];simp
theorem wV {m:List En} (hr:kG m) (t:eO):qY m t=m.filter fun e=>decide (e.tree=t):=by
 obtain⟨c,h1,_,h2,h3,h4⟩:=Tf hr t;generalize qY m t=r at *;generalize m.take (jE m t)=a at *;subst h1;rw [aI,aI,Hy (l:=a) fun e he=>by simpa using h2 e he,Hy (l:=c) fun e he=>by simpa using h4 e he,List.nil_append,List.append_nil];exact (List.filter_eq_self.2 fun e he=>by simpa using h3 e he).symm
theorem abx {m:List En} (hr:kG m) (t:eO) (p:List C5):Td (qY m t) p=eX m t p:=by
 rw [wV hr,Td,List.any_filter]
 rfl
theorem J4 {m:List En} (hr:kG m) (t:eO) (e:En):e∈qY m t↔e∈m/\e.tree=t:=by
 rw [wV hr,L,decide_eq_true_eq]
def iq (b:Br):Prop:=∀ a∈b.dO,a.par≠-1->∀ e∈b.ent,e.tree=a.id->e.up=aD->eX b.ent a.id e.p=Q
theorem mG (m:List En) (t:eO) (p:List C5):eX m t p=Q↔∃ e∈m,e.tree=t/\e.up=Q/\mF e.p p=Q:=by
 unfold eX;rw [List.any_eq_true];simp [Q0]
theorem Hz {b:Br} (h:jC b) (a:Ad) (ht:iq b):iq (fF b a).1:=by
 by_cases hin:a.id∈b.seen
 ·rw [wO hin]; exact ht
 ·rw [uq hin];intro y hy hp e he hte hu;rcases (jK _ _ _ _).1 hy with rfl|hy
  ·exfalso;have hk:=h.LK e he;unfold wS at hk;cases hf:fV b.dO e.tree with
   | none=>rw [hf] at hk; cases hk
   | some z =>
    obtain⟨z1,z2⟩:=nW hf;exact hin (by rw [<- hte,<- z2]; exact (h.oks z z1).1)
  ·exact ht y hy hp e he hte hu
theorem E8 {b:Br} (x:eO) (f:Int) (ht:iq b):iq (sN b x f).1:=by
 unfold sN;cases fV b.dO x with
 | none=>exact ht
 | some a =>
  simp only
  split
  ·intro y hy hp e he hte hu;have hy':=L.1 hy;have he':=L.1 he;obtain⟨z,h1,h2,h3,h4⟩:=(mG _ _ _).1 (ht y hy'.1 hp e he'.1 hte hu);refine (mG _ _ _).2 ⟨z,L.2 ⟨h1,?_⟩,h2,h3,h4⟩;rw [h2];exact hy'.2
  ·exact ht
theorem Dr {b:Br} (h:jC b) (e:En) (ht:iq b):iq (gQ b e).1:=by
 unfold gQ
 split
 ·exact ht
 ·rename_i a ha
  split
  ·exact ht
  ·rename_i h1
   split
   ·exact ht
   ·split
    ·exact ht
    ·have hid:a.id=e.tree:=by
      rcases mI (b.dO.map Ad.id) e.tree with q|⟨k,q,r⟩
      ·exact absurd (zD _ _ ▸ q) h1
      ·rw [zD,q,Int.toNat_natCast] at ha;rw [Z,ha] at r;exact J r
     have hA:a∈b.dO:=List.mem_of_getElem? ha;intro y hy hp z hz hte hu;have more:∀ p,eX b.ent y.id p=Q->eX (fP b.ent (eP (b.ent.map fB) (fB e)) { e with up:=decide (a.par≠-1) && !eX b.ent e.tree e.p }) y.id p=Q:=fun p hp=>by
      obtain⟨q,q1,q2⟩:=(mG _ _ _).1 hp;exact (mG _ _ _).2 ⟨q,(jK _ _ _ _).2 (ay q1),q2⟩
     rcases (jK _ _ _ _).1 hz with rfl|hz
     ·have hya:y=a:=by
       have g1:=nX h.dO hA;have g2:=nX h.dO hy;rw [show y.id=a.id from hte.symm.trans hid.symm,g1] at g2;exact (J g2).symm
      have hu':(decide (a.par≠-1) && !eX b.ent e.tree e.p)=aD:=hu;rw [<- hya,decide_eq_true hp,aK] at hu';refine more _ ?_;rw [<- show e.tree=y.id from hte];simpa using hu'
     ·exact more _ (ht y hy hp z hz hte hu)
theorem zG {α:Type} {l:List α} {k:Nat} {x y:α} (hk:l[k]?=some x) (hy:y∈l):y=x\/y∈cutAt l k:=by
 have hlt:=(D.1 hk).1;have e:l=l.take k++x::l.drop (k+1):=by
  conv=>lhs; rw [<- aj k l]
  rw [List.drop_eq_getElem_cons hlt,(D.1 hk).2]
 rw [e] at hy;unfold cutAt;rcases Y.1 hy with h|h
 ·exact ay (List.mem_append_left _ h)
 ·rcases X.1 h with h|h
  ·exact aA h
  ·exact ay (List.mem_append_right _ h)
theorem LZ {α:Type} {l:List α} {k:Nat} {y:α} (h:y∈cutAt l k):y∈l:=by
 unfold cutAt at h;rcases Y.1 h with h|h
 ·exact List.mem_of_mem_take h
 ·exact List.mem_of_mem_drop h
theorem Xj {α:Type} {l:List α} {k:Nat} {x y z:α} (hk:l[k]?=some x) (hz:z∈l):z=x\/z∈l.set k y:=by
 obtain⟨j,hj⟩:=U.1 hz;by_cases hjk:k=j
 ·subst hjk;rw [hk] at hj;exact aA (J hj).symm
 ·right;refine U.2 ⟨j,?_⟩;rw [List.getElem?_set_ne hjk];exact hj
theorem H9 {t:eO} {s:List En×List En} {k:Nat} (u:eO) (p:List C5) (h:eX s.1 u p=Q):eX (iC t s k).1 u p=Q:=by
 unfold iC
 split
 ·exact h
 ·rename_i e he
  split
  ·obtain⟨z,h1,h2,h3,h4⟩:=(mG _ _ _).1 h;rcases Xj (y:=VW e) he h1 with rfl|h5
   ·rename_i hq
    rw [hq.2.1] at h3;cases h3
   ·exact (mG _ _ _).2 ⟨z,h5,h2,h3,h4⟩
  ·exact h
theorem Dt (t:eO) (m:List En):∀ k,k<=m.length->(∀ j,j<k->∀ e,(iM t m k).1[j]?=some e->e.tree=t->e.up=aD->eX (iM t m k).1 t e.p=Q)/\(∀ u p,eX m u p=Q->eX (iM t m k).1 u p=Q)/\(∀ e,e∈(iM t m k).1->e.tree≠t->e∈m)
 | 0,_=>⟨fun j hj=>absurd hj (Nat.not_lt_zero _),fun _ _ h=>h,fun _ h _=>h⟩
 | k+1,hk=>by
  obtain⟨h1,h2,h3⟩:=Dt t m k (by omega);rw [lZ];refine⟨fun j hj e he htr hu=>?_,fun u p h=>H9 u p (h2 u p h),fun e he hne=>?_⟩
  ·have hl:=(nK t m k).1;generalize iM t m k=s at *;obtain⟨z,hz⟩:∃ z,s.1[k]?=some z:=⟨_,List.getElem?_eq_getElem (by omega)⟩;by_cases hc:z.tree=t/\z.up=aD/\eX s.1 t z.p=aD
   ·have e1:iC t s k=(s.1.set k (VW z),s.2++[VW z]):=by unfold iC; rw [hz]; simp only; rw [if_pos hc]
    have mono:=H9 (t:=t) (s:=s) (k:=k) t;rw [e1] at he mono ⊢;rw [List.getElem?_set] at he
    split at he
    ·split at he
     ·rw [<- J he] at hu;cases hu
     ·cases he
    ·exact mono _ (h1 j (by omega) e he htr hu)
   ·have e1:iC t s k=s:=by unfold iC; rw [hz]; simp only; rw [if_neg hc]
    rw [e1] at he ⊢;rcases Nat.lt_or_ge j k with h0|h0
    ·exact h1 j h0 e he htr hu
    ·obtain rfl:j=k:=by omega
     rw [hz] at he;obtain rfl:=J he;cases hv:eX s.1 t z.p with
     | true=>rfl
     | false=>exact absurd ⟨htr,hu,hv⟩ hc
  ·unfold iC at he
   split at he
   ·exact h3 e he hne
   ·rename_i z hz
    split at he
    ·rename_i hq
     rcases List.mem_or_eq_of_mem_set he with h5|h5
     ·exact h3 e h5 hne
     ·rw [h5] at hne;exact absurd hq.1 hne
    ·exact h3 e he hne
theorem zH {b:Br} (t x:eO) (f:Int) (ht:iq b):iq (takeB b t x f).1:=by
 unfold takeB
 split
 ·exact ht
 ·rename_i e0 he0
  split
  ·exact ht
  ·rename_i h1
   split
   ·exact ht
   ·have h5:e0.tree=t:=by
     rcases mI (b.ent.map fB) (t,x) with q|⟨k,q,r⟩
     ·exact absurd q h1
     ·rw [q,Int.toNat_natCast] at he0;rw [Z,he0] at r;exact congrArg Prod.fst (J r)
    generalize (iL (b.ent.map fB) (t,x)).toNat=k at *
    split
    ·rename_i hup
     intro y hy hp z hz hte hu;obtain⟨q,q1,q2,q3,q4⟩:=(mG _ _ _).1 (ht y hy hp z (LZ hz) hte hu);refine (mG _ _ _).2 ⟨q,(zG he0 q1).resolve_left ?_,q2,q3,q4⟩;rintro rfl;rw [hup] at q3;cases q3
    ·intro y hy hp z hz hte hu;obtain⟨g1,g2,g3⟩:=Dt t (cutAt b.ent k) (cutAt b.ent k).length (Nat.le_refl _);by_cases hyt:y.id=t
     ·obtain⟨j,hj⟩:=U.1 hz;have hlt:=(D.1 hj).1;rw [(nK t (cutAt b.ent k) _).1] at hlt;rw [hyt] at hte ⊢;exact g1 j hlt z hj hte hu
     ·have hzt:z.tree≠t:=by rw [hte]; exact hyt
      obtain⟨q,q1,q2,q3,q4⟩:=(mG _ _ _).1 (ht y hy hp z (LZ (g3 z hz hzt)) hte hu);refine g2 _ _ ((mG _ _ _).2 ⟨q,(zG he0 q1).resolve_left ?_,q2,q3,q4⟩);rintro rfl;exact hyt (q2.symm.trans h5)
end Sb
end Go.Proofs.YtkcfgbddlpomgaaGreat
