/-
  Right's closures, an. Conditions as told.
-/
import Derived.Test.YtkcfgbddlpomgaaGreatOQ026
import Derived.Test.YtkcfgbddlpomgaaGreatOQ027
set_option maxRecDepth 100000
set_option maxHeartbeats 64000000
open _root_.Bool renaming true->Q,and_eq_true->aB,false->aN,true_and->aP
open _root_.List renaming getElem?_eq_some_iff->D,pairwise_cons->K,mem_filter->L,takeWhile_cons->O,append_assoc->U,getElem?_eq_getElem->V,mem_iff_getElem?->X,getElem?_map->Y,dropWhile_cons->Z,mem_cons->ah,mem_append->aj,length_append->ak,takeWhile_append_dropWhile->ay,take_append_drop->aA,length_cons->aF,mem_cons_of_mem->aG,getElem?_append_right->aH,getElem?_append_left->aI,all_eq_true->aK,getElem_mem->aL,singleton_append->aM,filter_sublist->aO,all_takeWhile->aQ,filter_append->aR,getElem?_set->aS,any_append->aT,any_cons->aU,mem_map->aW
open _root_.Nat renaming add_sub_cancel_left->au,le_refl->aJ,add_assoc->aV,add_zero->aX
open Option.some renaming inj->J
open _root_.Or renaming inr->aC,inl->aD
namespace Go.Proofs.YtkcfgbddlpomgaaGreat
namespace Av
open Go.RowKit Go.Sort Rw YtkcfgbddlpomgaaGreat.Nm Pr Bk
abbrev cAd (a b:Ad):Int:=mQ a.id b.id
abbrev wY (a b:En):Int:=R8 (mQ a.tree b.tree) (mQ a.sub b.sub)
abbrev cOw (a b:Ow):Int:=mQ a.id b.id
def afB (b:Br):Bool:=tC qh b.near && (tC mQ b.seen && (tC cAd b.dQ && (tC wY b.ent && (tC cOw b.own && (b.dQ.all (adE b) && (b.ent.all (yK b) && b.own.all (fun o=>Wr.jg o.p)))))))
theorem nJ {α:Type} {c:α->α->Int} (ht:∀ x y z,c x y<0->c y z<0->c x z<0):∀ {l:List α},tC c l=Q->l.Pairwise fun x y=>c x y<0
 | [],_=>List.Pairwise.nil
 | [x],_=>List.pairwise_singleton _ _
 | x::y::l,h=>by
  unfold tC at h;rw [aB] at h;have ih:=nJ ht h.2;have hxy:c x y<0:=of_decide_eq_true h.1;refine K.2 ⟨fun z hz=>?_,ih⟩;rcases ah.1 hz with rfl|hz
  ·exact hxy
  ·exact ht x y z hxy ((K.1 ih).1 z hz)
theorem oO {x y:eT}:mQ x y<0↔eO x y=Q:=tX x y
theorem Gi (x y z:eT) (h1:mQ x y<0) (h2:mQ y z<0):mQ x z<0:=oO.2 (iT (oO.1 h1) (oO.1 h2))
theorem QD {l:List eT} (h:tC mQ l=Q):I5 l:=(nJ Gi h).imp fun {_a _b} q=>oO.1 q
theorem Vb {l:List Ad} (h:tC cAd l=Q):ug l:=(nJ (fun x y z=>Gi x.id y.id z.id) h).imp fun {_a _b} q=>oO.1 q
theorem rM {α:Type} {c:α->α->Int}:∀ {l:List α},(l.Pairwise fun x y=>c x y<0)->tC c l=Q
 | [],_=>rfl
 | [_],_=>rfl
 | x::y::l,h=>by
  have h1:=K.1 h;unfold tC;rw [decide_eq_true (h1.1 y (by simp)),aP];exact rM h1.2
theorem Zd (x y z:Int) (h1:qh x y<0) (h2:qh y z<0):qh x z<0:=by rw [tV] at *; omega
theorem qB (a b:En):wY a b<0↔(eO a.tree b.tree=Q\/(a.tree=b.tree/\eO a.sub b.sub=Q)):=by
 unfold wY R8;by_cases h:mQ a.tree b.tree=0
 ·rw [if_pos h,tX];have e:=(uM _ _).1 h;constructor
  ·exact fun q=>aC ⟨e,q⟩
  ·rintro (q|⟨_,q⟩)
   ·rw [e,kU] at q; cases q
   ·exact q
 ·rw [if_neg h,tX];constructor
  ·exact aD
  ·rintro (q|⟨q,_⟩)
   ·exact q
   ·exact absurd ((uM _ _).2 q) h
theorem AO (x y z:En) (h1:wY x y<0) (h2:wY y z<0):wY x z<0:=by
 rw [qB] at *;rcases h1 with h1|⟨e1,h1⟩ <;> rcases h2 with h2|⟨e2,h2⟩
 ·exact aD (iT h1 h2)
 ·exact aD (by rw [<- e2]; exact h1)
 ·exact aD (by rw [e1]; exact h2)
 ·exact aC ⟨e1.trans e2,iT h1 h2⟩
structure jZ (b:Br):Prop where
 near:b.near.Pairwise (·<·)
 seen:I5 b.seen
 dQ:ug b.dQ
 ent:b.ent.Pairwise fun x y=>wY x y<0
 own:kW Ow.id b.own
 oks:∀ a∈b.dQ,a.id∈b.seen/\jS b.near a.par=Q/\Wr.jg a.p=Q
 NM:∀ e∈b.ent,yK b e=Q
 Ze:∀ o∈b.own,Wr.jg o.p=Q
theorem AP (b:Br):afB b=Q↔jZ b:=by
 unfold afB;simp only [aB,aK];constructor
 ·rintro⟨h1,h2,h3,h4,h5,h6,h7,h8⟩;refine⟨(nJ Zd h1).imp fun {a b} q=>(tV a b).1 q,QD h2,Vb h3,nJ AO h4,(nJ (fun x y z=>Gi x.id y.id z.id) h5).imp fun {a b} q=>oO.1 q,fun a ha=>?_,h7,h8⟩;have:=h6 a ha;unfold adE at this;simp only [aB,decide_eq_true_eq] at this;exact this
 ·rintro⟨h1,h2,h3,h4,h5,h6,h7,h8⟩;refine⟨rM (h1.imp fun {a b} q=>(tV a b).2 q),rM (h2.imp fun {a b} q=>oO.2 q),rM (h3.imp fun {a b} q=>oO.2 q),rM h4,rM (h5.imp fun {a b} q=>oO.2 q),fun a ha=>?_,h7,h8⟩;unfold adE;simp only [aB,decide_eq_true_eq];exact h6 a ha
theorem jE {α:Type} (l:List α) (k:Nat) (x y:α):y∈fV l k x↔y=x\/y∈l:=by
 unfold fV;rw [aj,aj,List.mem_singleton]
 conv=>rhs; rw [<- aA k l,aj]
 constructor
 ·rintro ((h|h)|h)
  ·exact aC (aD h)
  ·exact aD h
  ·exact aC (aC h)
 ·rintro (h|h|h)
  ·exact aD (aC h)
  ·exact aD (aD h)
  ·exact aC h
theorem Ja {α:Type} (key:α->eT):∀ (l:List α) (x:eT),∀ y∈l.take (gN key l x),eO (key y) x=Q
 | [],_,y,h=>by simp at h
 | a::l,x,y,h=>by
  unfold gN at h;by_cases ha:eO (key a) x=Q
  ·simp only [O,ha,if_true,aF,List.take_succ_cons,ah] at h;rcases h with rfl|h
   ·exact ha
   ·exact Ja key l x y h
  ·simp [ha] at h
theorem uj {α:Type} {key:α->eT}:∀ {l:List α} (_:kW key l) (x:eT) (_:∀ y∈l,key y≠x),∀ y∈l.drop (gN key l x),eO x (key y)=Q
 | [],_,_,_,y,h=>by simp at h
 | a::l,hr,x,hn,y,h=>by
  unfold gN at h;have hr':=K.1 hr;by_cases ha:eO (key a) x=Q
  ·simp only [O,ha,if_true,aF,List.drop_succ_cons] at h;exact uj hr'.2 x (fun y hy=>hn y (aG _ hy)) y h
  ·simp [ha] at h;have hax:eO x (key a)=Q:=by
    rcases lX (key a) x with q|q|q
    ·exact absurd q ha
    ·exact absurd q (hn a (by simp))
    ·exact q
   rcases h with rfl|h
   ·exact hax
   ·exact iT hax (hr'.1 y h)
theorem kL {α:Type} {key:α->eT} {l:List α} (hr:kW key l) (x:α) (hn:∀ y∈l,key y≠key x):kW key (fV l (gN key l (key x)) x):=by
 unfold fV;have h1:kW key (l.take (gN key l (key x))):=hr.sublist (List.take_sublist _ _);have h2:kW key (l.drop (gN key l (key x))):=hr.sublist (List.drop_sublist _ _);have lo:=Ja key l (key x);have hi:=uj hr (key x) hn;unfold kW at *;rw [U,List.pairwise_append];refine⟨h1,?_,fun a ha b hb=>?_⟩
 ·rw [aM,K];exact⟨fun b hb=>hi b hb,h2⟩
 ·rw [aM,ah] at hb;rcases hb with rfl|hb
  ·exact lo a ha
  ·exact iT (lo a ha) (hi b hb)
theorem pV {l:List Ad} {x:eT} {a:Ad} (h:gD l x=some a):a∈l/\a.id=x:=by
 unfold gD at h;exact⟨List.mem_of_find?_eq_some h,by simpa using List.find?_some h⟩
theorem pW {l:List Ad} (hr:ug l) {a:Ad} (ha:a∈l):gD l a.id=some a:=by
 obtain⟨k,hk⟩:=X.1 ha;refine tZ hk rfl fun j z hj hz e=>?_;have:=nU hr hj hz hk;rw [e,kU] at this;cases this
theorem Jb {l m:List Ad} (hl:ug l) (hm:ug m) {x:eT} (h:∀ a,a.id=x->(a∈l↔a∈m)):gD l x=gD m x:=by
 cases h1:gD l x with
 | none =>
  cases h2:gD m x with
  | none=>rfl
  | some a =>
   obtain⟨q1,q2⟩:=pV h2;have:=pW hl ((h a q2).2 q1);rw [q2,h1] at this;cases this
 | some a =>
  obtain⟨q1,q2⟩:=pV h1;have:=pW hm ((h a q2).1 q1);rw [q2] at this;exact this.symm
theorem sS {b c:Br} {e:En} (hn:c.near=b.near) (hf:gD c.dQ e.tree=gD b.dQ e.tree) (h:yK b e=Q):yK c e=Q:=by
 unfold yK at *;rw [hf,hn];exact h
theorem Jc {b:Br} (h:jZ b) (a:Ad) (hp:jS b.near a.par=Q) (hq:Wr.jg a.p=Q):jZ (fJ b a).1:=by
 by_cases hin:a.id∈b.seen
 ·rw [yJ hin]; exact h
 ·rw [vU hin];have hna:∀ y∈b.dQ,y.id≠a.id:=fun y hy e=>hin (by rw [<- e]; exact (h.oks y hy).1);have hns:∀ y∈b.seen,y≠a.id:=fun y hy e=>hin (by rw [<- e]; exact hy);have ra:ug (fV b.dQ (fO (b.dQ.map Ad.id) a.id) a):=by
   rw [<- jm];exact kL h.dQ a hna
  have rs:I5 (fV b.seen (fO b.seen a.id) a.id):=by
   have:=kL (key:=fun x:eT=>x) h.seen a.id hns;rw [jm,List.map_id'] at this;exact this
  refine⟨h.near,rs,ra,h.ent,h.own,fun y hy=>?_,fun e he=>?_,h.Ze⟩
  ·rcases (jE _ _ _ _).1 hy with rfl|hy
   ·exact⟨(jE _ _ _ _).2 (aD rfl),hp,hq⟩
   ·exact⟨(jE _ _ _ _).2 (aC (h.oks y hy).1),(h.oks y hy).2⟩
  ·refine sS (b:=b) rfl (Jb ra h.dQ fun y hy=>?_) (h.NM e he);rw [jE];refine⟨fun q=>q.resolve_left fun e2=>?_,aC⟩;have hk:=h.NM e he;unfold yK at hk;cases hf:gD b.dQ e.tree with
   | none=>rw [hf] at hk; cases hk
   | some z =>
    obtain⟨z1,z2⟩:=pV hf;exact hna z z1 (by rw [z2,<- hy,e2])
theorem QF {b:Br} (h:jZ b) (x:eT) (f:Int):jZ (uO b x f).1:=by
 unfold uO;cases gD b.dQ x with
 | none=>exact h
 | some a =>
  simp only
  split
  ·have ra:ug (b.dQ.filter fun e=>decide (e.id≠x)):=h.dQ.sublist aO;refine⟨h.near,h.seen,ra,h.ent.sublist aO,h.own,fun y hy=>h.oks y ((L.1 hy).1),fun e he=>?_,h.Ze⟩;have ht:e.tree≠x:=of_decide_eq_true (L.1 he).2;refine sS (b:=b) rfl (Jb ra h.dQ fun y hy=>?_) (h.NM e (L.1 he).1);rw [L];exact⟨fun q=>q.1,fun q=>⟨q,decide_eq_true (by rw [hy]; exact ht)⟩⟩
  ·exact h
end Av
namespace Sb
open Go.RowKit Go.Sort Rw YtkcfgbddlpomgaaGreat.Nm Pr Bk Av
abbrev iB (m:List En):Prop:=m.Pairwise fun x y=>wY x y<0
def iK (m:List En) (t:eT):Nat:=(m.takeWhile fun e=>eO e.tree t).length
def mZ (m:List En) (t:eT):List En:=(m.drop (iK m t)).takeWhile fun e=>decide (e.tree=t)
def C8 (r:List En) (p:List C5):Bool:=r.any fun e=>e.up && nM e.p p
def mg (s:List En×List En) (k:Nat):List En×List En:=match s.1[k]? with
 | none=>s
 | some e=>if e.up=Q\/C8 s.1 e.p=Q then s else (s.1.set k (Cv e),s.2++[Cv e])
def gW (r:List En) (k:Nat):List En×List En:=(List.range k).foldl mg (r,[])
theorem nV (r:List En) (k:Nat):gW r (k+1)=mg (gW r k) k:=by
 simp [gW,List.range_succ]
theorem AQ:∀ (l:List eT) (x:eT),fK l x=iJ l x
 | [],_=>rfl
 | a::l,x=>by rw [fK,iJ,AQ l x]
theorem kV (x y:En):jC (eD x) (eD y)=Q↔wY x y<0:=by
 rw [qB];unfold jC;simp [zy]
theorem rO (x:eT×eT):jC x x=aN:=by simp [jC,kU]
def jo (m:List En) (t s:eT):Bool:=match m[eu (m.map eD) (t,s)]? with
 | none=>aN
 | some e=>decide (eD e=(t,s))
theorem o8:∀ (l:List (eT×eT)) (x:eT×eT) (j:Nat) (y:eT×eT),j<eu l x->l[j]?=some y->jC y x=Q
 | [],_,_,_,_,h=>by simp at h
 | a::l,x,j,y,hj,h=>by
  unfold eu at hj;by_cases ha:jC a x=Q
  ·rw [O,if_pos ha,aF] at hj;cases j with
   | zero=>rw [<- J (show some a=some y from h)]; exact ha
   | succ j=>exact o8 l x j y (by unfold eu; omega) (by simpa using h)
  ·rw [O,if_neg ha] at hj;simp at hj
theorem yL:∀ (l:List (eT×eT)) (x y:eT×eT),l[eu l x]?=some y->jC y x=aN
 | [],_,_,h=>by simp [eu] at h
 | a::l,x,y,h=>by
  unfold eu at h;by_cases ha:jC a x=Q
  ·rw [O,if_pos ha,aF] at h;exact yL l x y (by unfold eu; simpa using h)
  ·rw [O,if_neg ha] at h;rw [<- J (show some a=some y from h)];simpa using ha
theorem sU {m:List En} (hr:iB m) (t s:eT):iJ (m.map eD) (t,s)=if jo m t s=Q then (eu (m.map eD) (t,s):Int) else -1:=by
 unfold jo;cases hp:m[eu (m.map eD) (t,s)]? with
 | none =>
  rw [if_neg (by simp)];refine vQ _ _ fun j y hj e=>?_;have hl:m.length<=eu (m.map eD) (t,s):=List.getElem?_eq_none_iff.1 hp;have hj2:=(D.1 hj).1;rw [List.length_map] at hj2;have h:=o8 _ (t,s) j y (by omega) hj;rw [e,rO] at h;cases h
 | some e =>
  have hpk:(m.map eD)[eu (m.map eD) (t,s)]?=some (eD e):=by rw [Y,hp]; rfl
  by_cases he:eD e=(t,s)
  ·simp only [he,decide_true,if_true];rw [he] at hpk;refine Iy _ _ _ hpk fun j z hj hz q=>?_;have h:=o8 _ (t,s) j z hj hz;rw [q,rO] at h;cases h
  ·rw [if_neg (by simpa using he)];refine vQ _ _ fun j y hj q=>?_;rcases Nat.lt_trichotomy j (eu (m.map eD) (t,s)) with h|h|h
   ·have h:=o8 _ (t,s) j y h hj;rw [q,rO] at h;cases h
   ·subst h;rw [hpk] at hj;exact he ((J hj).trans q)
   ·rw [Y] at hj;cases hz:m[j]? with
    | none=>rw [hz] at hj; cases hj
    | some z =>
     rw [hz] at hj;have h1:=List.pairwise_iff_getElem.1 hr _ _ (D.1 hp).1 (D.1 hz).1 h;rw [(D.1 hp).2,(D.1 hz).2,<- kV] at h1;have h2:=yL _ _ _ hpk;rw [show eD z=(t,s) from (J hj).trans q] at h1;rw [h1] at h2;cases h2
theorem NP {x y:En} (h:wY x y<0):eO x.tree y.tree=Q\/x.tree=y.tree:=by
 rcases (qB x y).1 h with q|q
 ·exact aD q
 ·exact aC q.1
theorem AU {α:Type} (p:α->Bool):∀ l:List α,l.drop (l.takeWhile p).length=l.dropWhile p
 | []=>rfl
 | a::l=>by
  by_cases h:p a=Q
  ·simp [h,AU p l]
  ·simp [h]
theorem Lv:∀ {m:List En} (t:eT) (_:iB m),∀ e∈m.dropWhile (fun e=>eO e.tree t),eO e.tree t=aN
 | [],_,_,e,h=>by simp at h
 | a::m,t,hr,e,h=>by
  have hr':=K.1 hr;by_cases ha:eO a.tree t=Q
  ·rw [Z,if_pos ha] at h;exact Lv t hr'.2 e h
  ·rw [Z,if_neg ha] at h;rcases ah.1 h with rfl|h
   ·simpa using ha
   ·cases hq:eO e.tree t with
    | false=>rfl
    | true =>
     exfalso;rcases NP (hr'.1 e h) with q|q
     ·exact ha (iT q hq)
     ·exact ha (by rw [q]; exact hq)
theorem Vd:∀ {m:List En} (t:eT) (_:iB m) (_:∀ e∈m,eO e.tree t=aN),∀ e∈m.dropWhile (fun e=>decide (e.tree=t)),eO t e.tree=Q
 | [],_,_,_,e,h=>by simp at h
 | a::m,t,hr,hl,e,h=>by
  have hr':=K.1 hr;by_cases ha:a.tree=t
  ·rw [Z,if_pos (by simpa using ha)] at h;exact Vd t hr'.2 (fun e he=>hl e (aG _ he)) e h
  ·rw [Z,if_neg (by simpa using ha)] at h;have hta:eO t a.tree=Q:=by
    rcases lX a.tree t with q|q|q
    ·rw [hl a (by simp)] at q; cases q
    ·exact absurd q ha
    ·exact q
   rcases ah.1 h with rfl|h
   ·exact hta
   ·rcases NP (hr'.1 e h) with q|q
    ·exact iT hta q
    ·rw [<- q]; exact hta
theorem NS {x t:eT} (h:eO x t=Q):x≠t:=by rintro rfl; rw [kU] at h; cases h
theorem Jd {m:List En} (hr:iB m) (t:eT):∃ c,m=m.take (iK m t)++mZ m t++c/\(m.take (iK m t)).length=iK m t/\(∀ e∈m.take (iK m t),e.tree≠t)/\(∀ e∈mZ m t,e.tree=t)/\(∀ e∈c,e.tree≠t):=by
 have e1:m.take (iK m t)=m.takeWhile fun e=>eO e.tree t:=by
  unfold iK
  conv=>lhs; arg 2; rw [<- ay (p:=fun e:En=>eO e.tree t) (l:=m)]
  rw [List.take_left]
 have e2:m.drop (iK m t)=m.dropWhile fun e=>eO e.tree t:=AU _ _;refine⟨(m.drop (iK m t)).dropWhile fun e=>decide (e.tree=t),?_,?_,?_,?_,?_⟩
 ·unfold mZ;rw [U,ay,aA]
 ·rw [e1]; rfl
 ·rw [e1];intro e he;exact NS (aK.1 aQ e he)
 ·intro e he;unfold mZ at he;exact of_decide_eq_true (aK.1 (aQ (p:=fun e:En=>decide (e.tree=t))) e he)
 ·rw [e2];intro e he;have h1:iB (m.dropWhile fun e=>eO e.tree t):=hr.sublist (List.dropWhile_sublist _);exact (NS (Vd t h1 (Lv t hr) e he)).symm
theorem Je {α:Type} {p:α->Bool} {l:List α} (h:∀ e∈l,p e=aN):l.filter p=[]:=by
 rw [List.filter_eq_nil_iff];intro e he;rw [h e he];simp
theorem yM {m:List En} (hr:iB m) (t:eT):mZ m t=m.filter fun e=>decide (e.tree=t):=by
 obtain⟨c,h1,_,h2,h3,h4⟩:=Jd hr t;generalize mZ m t=r at *;generalize m.take (iK m t)=a at *;subst h1;rw [aR,aR,Je (l:=a) fun e he=>by simpa using h2 e he,Je (l:=c) fun e he=>by simpa using h4 e he,List.nil_append,List.append_nil];exact (List.filter_eq_self.2 fun e he=>by simpa using h3 e he).symm
theorem adI {m:List En} (hr:iB m) (t:eT) (p:List C5):C8 (mZ m t) p=eY m t p:=by
 rw [yM hr,C8,List.any_filter]
 rfl
theorem Lx {m:List En} (hr:iB m) (t:eT) (e:En):e∈mZ m t↔e∈m/\e.tree=t:=by
 rw [yM hr,L,decide_eq_true_eq]
theorem Zf {a r c:List En} {t:eT} (ha:∀ e∈a,e.tree≠t) (hr:∀ e∈r,e.tree=t) (hc:∀ e∈c,e.tree≠t) (p:List C5):eY (a++r++c) t p=C8 r p:=by
 have none_:∀ l:List En,(∀ e∈l,e.tree≠t)->l.any (Iw t p)=aN:=fun l hl=>by
  rw [List.any_eq_false];intro e he;unfold Iw;rw [decide_eq_false (hl e he)];simp
 unfold eY C8;rw [aT,aT,none_ a ha,none_ c hc,Bool.false_or,Bool.or_false]
 induction r with
 | nil=>rfl
 | cons x r ih =>
  rw [aU,aU,ih fun e he=>hr e (aG _ he)]
  congr 1
  unfold Iw;rw [decide_eq_true (hr x (by simp)),aP]
theorem AV (s:List En×List En) (k:Nat):(mg s k).1.map eD=s.1.map eD:=by
 unfold mg
 split
 ·rfl
 ·rename_i e he
  split
  ·rfl
  ·rw [List.map_set];refine List.ext_getElem? fun j=>?_;rw [aS]
   split
   ·rename_i hj
    subst hj
    split
    ·rw [Y,he]
     rfl
    ·rename_i hl
     rw [List.getElem?_eq_none (by simpa using hl)]
   ·rfl
theorem um (r:List En):∀ k,(gW r k).1.map eD=r.map eD
 | 0=>rfl
 | k+1=>by rw [nV,AV,um r k]
theorem vX (r:List En) (k:Nat):(gW r k).1.length=r.length:=by
 have h:=congrArg List.length (um r k);simpa using h
theorem Ei (r:List En):∀ k,(gW r k).2.length<=k
 | 0=>aJ _
 | k+1=>by
  have ih:=Ei r k;rw [nV];unfold mg
  split
  ·omega
  ·split
   ·omega
   ·simp; omega
theorem QG {r r':List En} {t:eT} (h:r'.map eD=r.map eD) (hr:∀ e∈r,e.tree=t):∀ e∈r',e.tree=t:=by
 intro e he;have h1:eD e∈r.map eD:=by rw [<- h]; exact aW.2 ⟨e,he,rfl⟩
 obtain⟨z,hz,hk⟩:=aW.1 h1;rw [<- show z.tree=e.tree from congrArg Prod.fst hk];exact hr z hz
theorem LJ {a r c:List En} {t:eT} (ha:∀ e∈a,e.tree≠t) (hr:∀ e∈r,e.tree=t) (hc:∀ e∈c,e.tree≠t):gT t (a++r++c) (a++r++c).length=(a++(gW r r.length).1++c,(gW r r.length).2):=by
 have s1:∀ k,k<=a.length->gT t (a++r++c) k=(a++r++c,[]):=by
  intro k
  induction k with
  | zero=>intro _; rfl
  | succ k ih =>
   intro hk;rw [jH,ih (by omega)];unfold gM;have e1:(a++r++c)[k]?=some a[k]:=by rw [U,aI (by omega),V (by omega)]
   rw [e1];simp only;rw [if_neg fun h=>ha _ (aL _) h.1]
 have s2:∀ j,j<=r.length->gT t (a++r++c) (a.length+j)=(a++(gW r j).1++c,(gW r j).2):=by
  intro j
  induction j with
  | zero=>intro _; rw [aX,s1 _ (aJ _)]; rfl
  | succ j ih =>
   intro hj;have hl:=vX r j;have hk:=QG (um r j) hr;rw [<- aV,jH,ih (by omega),nV];generalize gW r j=s at *;obtain⟨r',u⟩:=s;simp only at hl hk ⊢;unfold gM mg;have e1:(a++r'++c)[a.length+j]?=r'[j]?:=by rw [U,aH (by omega),au,aI (by omega)]
   simp only [e1];rw [V (show j<r'.length by omega)];simp only;have ht:=hk _ (aL (show j<r'.length by omega));rw [Zf ha hk hc];by_cases h1:(r'[j]'(by omega)).up=Q\/C8 r' (r'[j]'(by omega)).p=Q
   ·rw [if_pos h1,if_neg];rintro⟨_,g2,g3⟩;rcases h1 with h1|h1
    ·rw [h1] at g2; cases g2
    ·rw [h1] at g3; cases g3
   ·rw [if_neg h1,if_pos ⟨ht,by simpa using fun q=>h1 (aD q),by simpa using fun q=>h1 (aC q)⟩];have e2:(a++r'++c).set (a.length+j) (Cv (r'[j]'(by omega)))=a++r'.set j (Cv (r'[j]'(by omega)))++c:=by
     rw [U,List.set_append_right _ _ (by omega),au,List.set_append_left _ _ (by omega),U]
    rw [e2]
 have s3:∀ j,j<=c.length->gT t (a++r++c) (a.length+r.length+j)=(a++(gW r r.length).1++c,(gW r r.length).2):=by
  intro j
  induction j with
  | zero=>intro _; rw [aX,s2 _ (aJ _)]
  | succ j ih =>
   intro hj;have hl:=vX r r.length;rw [<- aV,jH,ih (by omega)];unfold gM;have e1:(a++(gW r r.length).1++c)[a.length+r.length+j]?=some (c[j]'(by omega)):=by
    rw [aH (by rw [ak,hl]; omega),ak,hl,au,V (by omega)]
   rw [e1];simp only;rw [if_neg fun h=>hc _ (aL _) h.1]
 have h:=s3 c.length (aJ _);rw [ak,ak];exact h
def iP (b:Br):Prop:=∀ a∈b.dQ,a.par≠-1->∀ e∈b.ent,e.tree=a.id->e.up=aN->eY b.ent a.id e.p=Q
theorem nN (m:List En) (t:eT) (p:List C5):eY m t p=Q↔∃ e∈m,e.tree=t/\e.up=Q/\nM e.p p=Q:=by
 unfold eY;rw [List.any_eq_true];simp [Iw]
theorem Jf {b:Br} (h:jZ b) (a:Ad) (ht:iP b):iP (fJ b a).1:=by
 by_cases hin:a.id∈b.seen
 ·rw [yJ hin]; exact ht
 ·rw [vU hin];intro y hy hp e he hte hu;rcases (jE _ _ _ _).1 hy with rfl|hy
  ·exfalso;have hk:=h.NM e he;unfold yK at hk;cases hf:gD b.dQ e.tree with
   | none=>rw [hf] at hk; cases hk
   | some z =>
    obtain⟨z1,z2⟩:=pV hf;exact hin (by rw [<- hte,<- z2]; exact (h.oks z z1).1)
  ·exact ht y hy hp e he hte hu
theorem Gj {b:Br} (x:eT) (f:Int) (ht:iP b):iP (uO b x f).1:=by
 unfold uO;cases gD b.dQ x with
 | none=>exact ht
 | some a =>
  simp only
  split
  ·intro y hy hp e he hte hu;have hy':=L.1 hy;have he':=L.1 he;obtain⟨z,h1,h2,h3,h4⟩:=(nN _ _ _).1 (ht y hy'.1 hp e he'.1 hte hu);refine (nN _ _ _).2 ⟨z,L.2 ⟨h1,?_⟩,h2,h3,h4⟩;rw [h2];exact hy'.2
  ·exact ht
theorem Ej {b:Br} (h:jZ b) (e:En) (ht:iP b):iP (fG b e).1:=by
 unfold fG
 split
 ·exact ht
 ·rename_i a ha
  split
  ·exact ht
  ·rename_i h1
   split
   ·exact ht
   ·split
    ·exact ht
    ·have hid:a.id=e.tree:=by
      rcases lG (b.dQ.map Ad.id) e.tree with q|⟨k,q,r⟩
      ·exact absurd (AQ _ _ ▸ q) h1
      ·rw [AQ,q,Int.toNat_natCast] at ha;rw [Y,ha] at r;exact J r
     have hA:a∈b.dQ:=List.mem_of_getElem? ha;intro y hy hp z hz hte hu;have more:∀ p,eY b.ent y.id p=Q->eY (fV b.ent (eu (b.ent.map eD) (eD e)) { e with up:=decide (a.par≠-1) && !eY b.ent e.tree e.p }) y.id p=Q:=fun p hp=>by
      obtain⟨q,q1,q2⟩:=(nN _ _ _).1 hp;exact (nN _ _ _).2 ⟨q,(jE _ _ _ _).2 (aC q1),q2⟩
     rcases (jE _ _ _ _).1 hz with rfl|hz
     ·have hya:y=a:=by
       have g1:=pW h.dQ hA;have g2:=pW h.dQ hy;rw [show y.id=a.id from hte.symm.trans hid.symm,g1] at g2;exact (J g2).symm
      have hu':(decide (a.par≠-1) && !eY b.ent e.tree e.p)=aN:=hu;rw [<- hya,decide_eq_true hp,aP] at hu';refine more _ ?_;rw [<- show e.tree=y.id from hte];simpa using hu'
     ·exact more _ (ht y hy hp z hz hte hu)
theorem AX {α:Type} {l:List α} {k:Nat} {x y:α} (hk:l[k]?=some x) (hy:y∈l):y=x\/y∈cutAt l k:=by
 have hlt:=(D.1 hk).1;have e:l=l.take k++x::l.drop (k+1):=by
  conv=>lhs; rw [<- aA k l]
  rw [List.drop_eq_getElem_cons hlt,(D.1 hk).2]
 rw [e] at hy;unfold cutAt;rcases aj.1 hy with h|h
 ·exact aC (List.mem_append_left _ h)
 ·rcases ah.1 h with h|h
  ·exact aD h
  ·exact aC (List.mem_append_right _ h)
theorem NU {α:Type} {l:List α} {k:Nat} {y:α} (h:y∈cutAt l k):y∈l:=by
 unfold cutAt at h;rcases aj.1 h with h|h
 ·exact List.mem_of_mem_take h
 ·exact List.mem_of_mem_drop h
theorem Zg {α:Type} {l:List α} {k:Nat} {x y z:α} (hk:l[k]?=some x) (hz:z∈l):z=x\/z∈l.set k y:=by
 obtain⟨j,hj⟩:=X.1 hz;by_cases hjk:k=j
 ·subst hjk;rw [hk] at hj;exact aD (J hj).symm
 ·right;refine X.2 ⟨j,?_⟩;rw [List.getElem?_set_ne hjk];exact hj
theorem Jg {t:eT} {s:List En×List En} {k:Nat} (u:eT) (p:List C5) (h:eY s.1 u p=Q):eY (gM t s k).1 u p=Q:=by
 unfold gM
 split
 ·exact h
 ·rename_i e he
  split
  ·obtain⟨z,h1,h2,h3,h4⟩:=(nN _ _ _).1 h;rcases Zg (y:=Cv e) he h1 with rfl|h5
   ·rename_i hq
    rw [hq.2.1] at h3;cases h3
   ·exact (nN _ _ _).2 ⟨z,h5,h2,h3,h4⟩
  ·exact h
theorem El (t:eT) (m:List En):∀ k,k<=m.length->(∀ j,j<k->∀ e,(gT t m k).1[j]?=some e->e.tree=t->e.up=aN->eY (gT t m k).1 t e.p=Q)/\(∀ u p,eY m u p=Q->eY (gT t m k).1 u p=Q)/\(∀ e,e∈(gT t m k).1->e.tree≠t->e∈m)
 | 0,_=>⟨fun j hj=>absurd hj (Nat.not_lt_zero _),fun _ _ h=>h,fun _ h _=>h⟩
 | k+1,hk=>by
  obtain⟨h1,h2,h3⟩:=El t m k (by omega);rw [jH];refine⟨fun j hj e he htr hu=>?_,fun u p h=>Jg u p (h2 u p h),fun e he hne=>?_⟩
  ·have hl:=(o7 t m k).1;generalize gT t m k=s at *;obtain⟨z,hz⟩:∃ z,s.1[k]?=some z:=⟨_,V (by omega)⟩;by_cases hc:z.tree=t/\z.up=aN/\eY s.1 t z.p=aN
   ·have e1:gM t s k=(s.1.set k (Cv z),s.2++[Cv z]):=by unfold gM; rw [hz]; simp only; rw [if_pos hc]
    have mono:=Jg (t:=t) (s:=s) (k:=k) t;rw [e1] at he mono ⊢;rw [aS] at he
    split at he
    ·split at he
     ·rw [<- J he] at hu;cases hu
     ·cases he
    ·exact mono _ (h1 j (by omega) e he htr hu)
   ·have e1:gM t s k=s:=by unfold gM; rw [hz]; simp only; rw [if_neg hc]
    rw [e1] at he ⊢;rcases Nat.lt_or_ge j k with h0|h0
    ·exact h1 j h0 e he htr hu
    ·obtain rfl:j=k:=by omega
     rw [hz] at he;obtain rfl:=J he;cases hv:eY s.1 t z.p with
     | true=>rfl
     | false=>exact absurd ⟨htr,hu,hv⟩ hc
  ·unfold gM at he
   split at he
   ·exact h3 e he hne
   ·rename_i z hz
    split at he
    ·rename_i hq
     rcases List.mem_or_eq_of_mem_set he with h5|h5
     ·exact h3 e h5 hne
     ·rw [h5] at hne;exact absurd hq.1 hne
    ·exact h3 e he hne
theorem AY {b:Br} (t x:eT) (f:Int) (ht:iP b):iP (takeB b t x f).1:=by
 unfold takeB
 split
 ·exact ht
 ·rename_i e0 he0
  split
  ·exact ht
  ·rename_i h1
   split
   ·exact ht
   ·have h5:e0.tree=t:=by
     rcases lG (b.ent.map eD) (t,x) with q|⟨k,q,r⟩
     ·exact absurd q h1
     ·rw [q,Int.toNat_natCast] at he0;rw [Y,he0] at r;exact congrArg Prod.fst (J r)
    generalize (iJ (b.ent.map eD) (t,x)).toNat=k at *
    split
    ·rename_i hup
     intro y hy hp z hz hte hu;obtain⟨q,q1,q2,q3,q4⟩:=(nN _ _ _).1 (ht y hy hp z (NU hz) hte hu);refine (nN _ _ _).2 ⟨q,(AX he0 q1).resolve_left ?_,q2,q3,q4⟩;rintro rfl;rw [hup] at q3;cases q3
    ·intro y hy hp z hz hte hu;obtain⟨g1,g2,g3⟩:=El t (cutAt b.ent k) (cutAt b.ent k).length (aJ _);by_cases hyt:y.id=t
     ·obtain⟨j,hj⟩:=X.1 hz;have hlt:=(D.1 hj).1;rw [(o7 t (cutAt b.ent k) _).1] at hlt;rw [hyt] at hte ⊢;exact g1 j hlt z hj hte hu
     ·have hzt:z.tree≠t:=by rw [hte]; exact hyt
      obtain⟨q,q1,q2,q3,q4⟩:=(nN _ _ _).1 (ht y hy hp z (NU (g3 z hz hzt)) hte hu);refine g2 _ _ ((nN _ _ _).2 ⟨q,(AX he0 q1).resolve_left ?_,q2,q3,q4⟩);rintro rfl;exact hyt (q2.symm.trans h5)
end Sb
end Go.Proofs.YtkcfgbddlpomgaaGreat
