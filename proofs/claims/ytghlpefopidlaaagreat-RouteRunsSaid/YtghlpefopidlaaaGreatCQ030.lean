/-
  Right's closures, an. Conditions as told.
-/
import Derived.Test.YtghlpefopidlaaaGreatCQ026
import Derived.Test.YtghlpefopidlaaaGreatCQ027
import Derived.Test.YtghlpefopidlaaaGreatCQ029
import Derived.Shelf.Abstract
set_option maxRecDepth 100000
set_option maxHeartbeats 64000000
open _root_.Bool renaming true->V,and_eq_true->aB,false->aY,eq_false_iff->aZ,true_and->bq
open Go.Ending renaming returned->L
open Go.IntKind renaming i64->aF
open Go.Lib renaming hid->U
open Go.Proofs.Tryz renaming prog->Q,ntmps137->bD,func137->bI,func136->bK,func132->bL
open Go.Value renaming int->aD,bool->aU,pointer->aV,slice->bf
open _root_.List renaming getElem?_eq_some_iff->D,pairwise_cons->J,takeWhile_cons->K,append_assoc->O,dropWhile_cons->ah,getElem?_eq_getElem->aj,length_append->ak,takeWhile_append_dropWhile->aA,length_cons->aC,mem_cons->aG,mem_cons_of_mem->aH,getElem?_append_right->aK,getElem?_append_left->aL,getElem?_map->aM,all_eq_true->aO,getElem_mem->aP,mem_append->aQ,take_append_drop->aR,singleton_append->aS,all_takeWhile->aW,filter_append->aX,any_append->bg,any_cons->bB,mem_map->bG
open _root_.Nat renaming le_refl->au,add_sub_cancel_left->ay,add_assoc->bC,add_zero->bH,lt_or_ge->bJ
open _root_.Option renaming some->aI,none->bF
open Option.some renaming inj->aJ
open _root_.Or renaming inl->aN,inr->aT
namespace Go.Proofs.YtghlpefopidlaaaGreat
namespace Av
open Go.RowKit Go.Sort Rw YtghlpefopidlaaaGreat.Nm Pr Bk
abbrev R7 (a b:Ad):Int:=iP a.id b.id
abbrev qd (a b:En):Int:=Di (iP a.tree b.tree) (iP a.sub b.sub)
abbrev Tt (a b:Ow):Int:=iP a.id b.id
def M9 (b:Br):Bool:=kV jK b.near && (kV iP b.seen && (kV R7 b.dP && (kV qd b.ent && (kV Tt b.own && (b.dP.all (KN b) && (b.ent.all (su b) && b.own.all (fun o=>Wr.jT o.p)))))))
theorem iZ {α:Type} {c:α->α->Int} (ht:∀ x y z,c x y<0->c y z<0->c x z<0):∀ {l:List α},kV c l=V->l.Pairwise fun x y=>c x y<0
 | [],_=>List.Pairwise.nil
 | [x],_=>List.pairwise_singleton _ _
 | x::y::l,h=>by
  unfold kV at h;rw [aB] at h;have ih:=iZ ht h.2;have hxy:c x y<0:=of_decide_eq_true h.1;refine J.2 ⟨fun z hz=>?_,ih⟩;rcases aG.1 hz with rfl|hz
  ·exact hxy
  ·exact ht x y z hxy ((J.1 ih).1 z hz)
theorem jv {x y:dQ}:iP x y<0↔dB x y=V:=lH x y
theorem vG (x y z:dQ) (h1:iP x y<0) (h2:iP y z<0):iP x z<0:=jv.2 (fB (jv.1 h1) (jv.1 h2))
theorem BO {l:List dQ} (h:kV iP l=V):zU l:=(iZ vG h).imp fun {_a _b} q=>jv.1 q
theorem EP {l:List Ad} (h:kV R7 l=V):wT l:=(iZ (fun x y z=>vG x.id y.id z.id) h).imp fun {_a _b} q=>jv.1 q
theorem ku {α:Type} {c:α->α->Int}:∀ {l:List α},(l.Pairwise fun x y=>c x y<0)->kV c l=V
 | [],_=>rfl
 | [_],_=>rfl
 | x::y::l,h=>by
  have h1:=J.1 h;unfold kV;rw [decide_eq_true (h1.1 y (by simp)),bq];exact ku h1.2
theorem Ip (x y z:Int) (h1:jK x y<0) (h2:jK y z<0):jK x z<0:=by rw [lG] at *; omega
theorem lX (a b:En):qd a b<0↔(dB a.tree b.tree=V\/(a.tree=b.tree/\dB a.sub b.sub=V)):=by
 unfold qd Di;by_cases h:iP a.tree b.tree=0
 ·rw [if_pos h,lH];have e:=(lT _ _).1 h;constructor
  ·exact fun q=>aT ⟨e,q⟩
  ·rintro (q|⟨_,q⟩)
   ·rw [e,gB] at q; cases q
   ·exact q
 ·rw [if_neg h,lH];constructor
  ·exact aN
  ·rintro (q|⟨q,_⟩)
   ·exact q
   ·exact absurd ((lT _ _).2 q) h
theorem vH (x y z:En) (h1:qd x y<0) (h2:qd y z<0):qd x z<0:=by
 rw [lX] at *;rcases h1 with h1|⟨e1,h1⟩ <;> rcases h2 with h2|⟨e2,h2⟩
 ·exact aN (fB h1 h2)
 ·exact aN (by rw [<- e2]; exact h1)
 ·exact aN (by rw [e1]; exact h2)
 ·exact aT ⟨e1.trans e2,fB h1 h2⟩
structure iH (b:Br):Prop where
 near:b.near.Pairwise (·<·)
 seen:zU b.seen
 dP:wT b.dP
 ent:b.ent.Pairwise fun x y=>qd x y<0
 own:gQ Ow.id b.own
 oks:∀ a∈b.dP,a.id∈b.seen/\mY b.near a.par=V/\Wr.jT a.p=V
 KS:∀ e∈b.ent,su b e=V
 Qu:∀ o∈b.own,Wr.jT o.p=V
theorem qV (b:Br):M9 b=V↔iH b:=by
 unfold M9;simp only [aB,aO];constructor
 ·rintro⟨h1,h2,h3,h4,h5,h6,h7,h8⟩;refine⟨(iZ Ip h1).imp fun {a b} q=>(lG a b).1 q,BO h2,EP h3,iZ vH h4,(iZ (fun x y z=>vG x.id y.id z.id) h5).imp fun {a b} q=>jv.1 q,fun a ha=>?_,h7,h8⟩;have:=h6 a ha;unfold KN at this;simp only [aB,decide_eq_true_eq] at this;exact this
 ·rintro⟨h1,h2,h3,h4,h5,h6,h7,h8⟩;refine⟨ku (h1.imp fun {a b} q=>(lG a b).2 q),ku (h2.imp fun {a b} q=>jv.2 q),ku (h3.imp fun {a b} q=>jv.2 q),ku h4,ku (h5.imp fun {a b} q=>jv.2 q),fun a ha=>?_,h7,h8⟩;unfold KN;simp only [aB,decide_eq_true_eq];exact h6 a ha
theorem vI {α:Type} (l:List α) (k:Nat) (x y:α):y∈eX l k x↔y=x\/y∈l:=by
 unfold eX;rw [aQ,aQ,List.mem_singleton]
 conv=>rhs; rw [<- aR k l,aQ]
 constructor
 ·rintro ((h|h)|h)
  ·exact aT (aN h)
  ·exact aN h
  ·exact aT (aT h)
 ·rintro (h|h|h)
  ·exact aN (aT h)
  ·exact aN (aN h)
  ·exact aT h
theorem wZ {α:Type} (key:α->dQ):∀ (l:List α) (x:dQ),∀ y∈l.take (dM key l x),dB (key y) x=V
 | [],_,y,h=>by simp at h
 | a::l,x,y,h=>by
  unfold dM at h;by_cases ha:dB (key a) x=V
  ·simp only [K,ha,if_true,aC,List.take_succ_cons,aG] at h;rcases h with rfl|h
   ·exact ha
   ·exact wZ key l x y h
  ·simp [ha] at h
theorem oq {α:Type} {key:α->dQ}:∀ {l:List α} (_:gQ key l) (x:dQ) (_:∀ y∈l,key y≠x),∀ y∈l.drop (dM key l x),dB x (key y)=V
 | [],_,_,_,y,h=>by simp at h
 | a::l,hr,x,hn,y,h=>by
  unfold dM at h;have hr':=J.1 hr;by_cases ha:dB (key a) x=V
  ·simp only [K,ha,if_true,aC,List.drop_succ_cons] at h;exact oq hr'.2 x (fun y hy=>hn y (aH _ hy)) y h
  ·simp [ha] at h;have hax:dB x (key a)=V:=by
    rcases jP (key a) x with q|q|q
    ·exact absurd q ha
    ·exact absurd q (hn a (by simp))
    ·exact q
   rcases h with rfl|h
   ·exact hax
   ·exact fB hax (hr'.1 y h)
theorem nN {α:Type} {key:α->dQ} {l:List α} (hr:gQ key l) (x:α) (hn:∀ y∈l,key y≠key x):gQ key (eX l (dM key l (key x)) x):=by
 unfold eX;have h1:gQ key (l.take (dM key l (key x))):=hr.sublist (List.take_sublist _ _);have h2:gQ key (l.drop (dM key l (key x))):=hr.sublist (List.drop_sublist _ _);have lo:=wZ key l (key x);have hi:=oq hr (key x) hn;unfold gQ at *;rw [O,List.pairwise_append];refine⟨h1,?_,fun a ha b hb=>?_⟩
 ·rw [aS,J];exact⟨fun b hb=>hi b hb,h2⟩
 ·rw [aS,aG] at hb;rcases hb with rfl|hb
  ·exact lo a ha
  ·exact fB (lo a ha) (hi b hb)
theorem yQ {l:List Ad} {x:dQ} {a:Ad} (h:fJ l x=aI a):a∈l/\a.id=x:=by
 unfold fJ at h;exact⟨List.mem_of_find?_eq_some h,by simpa using List.find?_some h⟩
theorem qW {l:List Ad} (hr:wT l) {a:Ad} (ha:a∈l):fJ l a.id=aI a:=by
 obtain⟨k,hk⟩:=List.mem_iff_getElem?.1 ha;refine nY hk rfl fun j z hj hz e=>?_;have:=gY hr hj hz hk;rw [e,gB] at this;cases this
theorem vJ {b c:Br} {e:En} (hn:c.near=b.near) (hf:fJ c.dP e.tree=fJ b.dP e.tree) (h:su b e=V):su c e=V:=by
 unfold su at *;rw [hf,hn];exact h
end Av
namespace Sb
open Go.RowKit Go.Sort Rw YtghlpefopidlaaaGreat.Nm Pr Bk Av
abbrev gU (m:List En):Prop:=m.Pairwise fun x y=>qd x y<0
def fF (m:List En) (t:dQ):Nat:=(m.takeWhile fun e=>dB e.tree t).length
def jL (m:List En) (t:dQ):List En:=(m.drop (fF m t)).takeWhile fun e=>decide (e.tree=t)
def sw (r:List En) (p:List C5):Bool:=r.any fun e=>e.up && lW e.p p
def iK (s:List En×List En) (k:Nat):List En×List En:=match s.1[k]? with
 | none=>s
 | some e=>if e.up=V\/sw s.1 e.p=V then s else (s.1.set k (wW e),s.2++[wW e])
def eO (r:List En) (k:Nat):List En×List En:=(List.range k).foldl iK (r,[])
theorem jh (r:List En) (k:Nat):eO r (k+1)=iK (eO r k) k:=by
 simp [eO,List.range_succ]
theorem xg:∀ (l:List dQ) (x:dQ),eU l x=gD l x
 | [],_=>rfl
 | a::l,x=>by rw [eU,gD,xg l x]
theorem kC (x y:En):gF (dJ x) (dJ y)=V↔qd x y<0:=by
 rw [lX];unfold gF;simp [qh]
theorem oW (x:dQ×dQ):gF x x=aY:=by simp [gF,gB]
def iI (m:List En) (t s:dQ):Bool:=match m[dO (m.map dJ) (t,s)]? with
 | none=>aY
 | some e=>decide (dJ e=(t,s))
theorem kD:∀ (l:List (dQ×dQ)) (x:dQ×dQ) (j:Nat) (y:dQ×dQ),j<dO l x->l[j]?=aI y->gF y x=V
 | [],_,_,_,_,h=>by simp at h
 | a::l,x,j,y,hj,h=>by
  unfold dO at hj;by_cases ha:gF a x=V
  ·rw [K,if_pos ha,aC] at hj;cases j with
   | zero=>rw [<- aJ (show aI a=aI y from h)]; exact ha
   | succ j=>exact kD l x j y (by unfold dO; omega) (by simpa using h)
  ·rw [K,if_neg ha] at hj;simp at hj
theorem oZ:∀ (l:List (dQ×dQ)) (x y:dQ×dQ),l[dO l x]?=aI y->gF y x=aY
 | [],_,_,h=>by simp [dO] at h
 | a::l,x,y,h=>by
  unfold dO at h;by_cases ha:gF a x=V
  ·rw [K,if_pos ha,aC] at h;exact oZ l x y (by unfold dO; simpa using h)
  ·rw [K,if_neg ha] at h;rw [<- aJ (show aI a=aI y from h)];simpa using ha
theorem qX {m:List En} (hr:gU m) (t s:dQ):gD (m.map dJ) (t,s)=if iI m t s=V then (dO (m.map dJ) (t,s):Int) else -1:=by
 unfold iI;cases hp:m[dO (m.map dJ) (t,s)]? with
 | none =>
  rw [if_neg (by simp)];refine qN _ _ fun j y hj e=>?_;have hl:m.length<=dO (m.map dJ) (t,s):=List.getElem?_eq_none_iff.1 hp;have hj2:=(D.1 hj).1;rw [List.length_map] at hj2;have h:=kD _ (t,s) j y (by omega) hj;rw [e,oW] at h;cases h
 | some e =>
  have hpk:(m.map dJ)[dO (m.map dJ) (t,s)]?=aI (dJ e):=by rw [aM,hp]; rfl
  by_cases he:dJ e=(t,s)
  ·simp only [he,decide_true,if_true];rw [he] at hpk;refine wK _ _ _ hpk fun j z hj hz q=>?_;have h:=kD _ (t,s) j z hj hz;rw [q,oW] at h;cases h
  ·rw [if_neg (by simpa using he)];refine qN _ _ fun j y hj q=>?_;rcases Nat.lt_trichotomy j (dO (m.map dJ) (t,s)) with h|h|h
   ·have h:=kD _ (t,s) j y h hj;rw [q,oW] at h;cases h
   ·subst h;rw [hpk] at hj;exact he ((aJ hj).trans q)
   ·rw [aM] at hj;cases hz:m[j]? with
    | none=>rw [hz] at hj; cases hj
    | some z =>
     rw [hz] at hj;have h1:=List.pairwise_iff_getElem.1 hr _ _ (D.1 hp).1 (D.1 hz).1 h;rw [(D.1 hp).2,(D.1 hz).2,<- kC] at h1;have h2:=oZ _ _ _ hpk;rw [show dJ z=(t,s) from (aJ hj).trans q] at h1;rw [h1] at h2;cases h2
theorem zV {x y:En} (h:qd x y<0):dB x.tree y.tree=V\/x.tree=y.tree:=by
 rcases (lX x y).1 h with q|q
 ·exact aN q
 ·exact aT q.1
theorem qY {α:Type} (p:α->Bool):∀ l:List α,l.drop (l.takeWhile p).length=l.dropWhile p
 | []=>rfl
 | a::l=>by
  by_cases h:p a=V
  ·simp [h,qY p l]
  ·simp [h]
theorem yR:∀ {m:List En} (t:dQ) (_:gU m),∀ e∈m.dropWhile (fun e=>dB e.tree t),dB e.tree t=aY
 | [],_,_,e,h=>by simp at h
 | a::m,t,hr,e,h=>by
  have hr':=J.1 hr;by_cases ha:dB a.tree t=V
  ·rw [ah,if_pos ha] at h;exact yR t hr'.2 e h
  ·rw [ah,if_neg ha] at h;rcases aG.1 h with rfl|h
   ·simpa using ha
   ·cases hq:dB e.tree t with
    | false=>rfl
    | true =>
     exfalso;rcases zV (hr'.1 e h) with q|q
     ·exact ha (fB q hq)
     ·exact ha (by rw [q]; exact hq)
theorem ER:∀ {m:List En} (t:dQ) (_:gU m) (_:∀ e∈m,dB e.tree t=aY),∀ e∈m.dropWhile (fun e=>decide (e.tree=t)),dB t e.tree=V
 | [],_,_,_,e,h=>by simp at h
 | a::m,t,hr,hl,e,h=>by
  have hr':=J.1 hr;by_cases ha:a.tree=t
  ·rw [ah,if_pos (by simpa using ha)] at h;exact ER t hr'.2 (fun e he=>hl e (aH _ he)) e h
  ·rw [ah,if_neg (by simpa using ha)] at h;have Qv:dB t a.tree=V:=by
    rcases jP a.tree t with q|q|q
    ·rw [hl a (by simp)] at q; cases q
    ·exact absurd q ha
    ·exact q
   rcases aG.1 h with rfl|h
   ·exact Qv
   ·rcases zV (hr'.1 e h) with q|q
    ·exact fB Qv q
    ·rw [<- q]; exact Qv
theorem zW {x t:dQ} (h:dB x t=V):x≠t:=by rintro rfl; rw [gB] at h; cases h
theorem xq {m:List En} (hr:gU m) (t:dQ):∃ c,m=m.take (fF m t)++jL m t++c/\(m.take (fF m t)).length=fF m t/\(∀ e∈m.take (fF m t),e.tree≠t)/\(∀ e∈jL m t,e.tree=t)/\(∀ e∈c,e.tree≠t):=by
 have e1:m.take (fF m t)=m.takeWhile fun e=>dB e.tree t:=by
  unfold fF
  conv=>lhs; arg 2; rw [<- aA (p:=fun e:En=>dB e.tree t) (l:=m)]
  rw [List.take_left]
 have e2:m.drop (fF m t)=m.dropWhile fun e=>dB e.tree t:=qY _ _;refine⟨(m.drop (fF m t)).dropWhile fun e=>decide (e.tree=t),?_,?_,?_,?_,?_⟩
 ·unfold jL;rw [O,aA,aR]
 ·rw [e1]; rfl
 ·rw [e1];intro e he;exact zW (aO.1 aW e he)
 ·intro e he;unfold jL at he;exact of_decide_eq_true (aO.1 (aW (p:=fun e:En=>decide (e.tree=t))) e he)
 ·rw [e2];intro e he;have h1:gU (m.dropWhile fun e=>dB e.tree t):=hr.sublist (List.dropWhile_sublist _);exact (zW (ER t h1 (yR t hr) e he)).symm
theorem xu {α:Type} {p:α->Bool} {l:List α} (h:∀ e∈l,p e=aY):l.filter p=[]:=by
 rw [List.filter_eq_nil_iff];intro e he;rw [h e he];simp
theorem BP {m:List En} (hr:gU m) (t:dQ):jL m t=m.filter fun e=>decide (e.tree=t):=by
 obtain⟨c,h1,_,h2,h3,h4⟩:=xq hr t;generalize jL m t=r at *;generalize m.take (fF m t)=a at *;subst h1;rw [aX,aX,xu (l:=a) fun e he=>by simpa using h2 e he,xu (l:=c) fun e he=>by simpa using h4 e he,List.nil_append,List.append_nil];exact (List.filter_eq_self.2 fun e he=>by simpa using h3 e he).symm
theorem KT {m:List En} (hr:gU m) (t:dQ) (p:List C5):sw (jL m t) p=gK m t p:=by
 rw [BP hr,sw,List.any_filter]
 rfl
theorem Iq {a r c:List En} {t:dQ} (ha:∀ e∈a,e.tree≠t) (hr:∀ e∈r,e.tree=t) (hc:∀ e∈c,e.tree≠t) (p:List C5):gK (a++r++c) t p=sw r p:=by
 have none_:∀ l:List En,(∀ e∈l,e.tree≠t)->l.any (Im t p)=aY:=fun l hl=>by
  rw [List.any_eq_false];intro e he;unfold Im;rw [decide_eq_false (hl e he)];simp
 unfold gK sw;rw [bg,bg,none_ a ha,none_ c hc,Bool.false_or,Bool.or_false]
 induction r with
 | nil=>rfl
 | cons x r ih =>
  rw [bB,bB,ih fun e he=>hr e (aH _ he)]
  congr 1
  unfold Im;rw [decide_eq_true (hr x (by simp)),bq]
theorem qZ (s:List En×List En) (k:Nat):(iK s k).1.map dJ=s.1.map dJ:=by
 unfold iK
 split
 ·rfl
 ·rename_i e he
  split
  ·rfl
  ·rw [List.map_set];refine List.ext_getElem? fun j=>?_;rw [List.getElem?_set]
   split
   ·rename_i hj
    subst hj
    split
    ·rw [aM,he]
     rfl
    ·rename_i hl
     rw [List.getElem?_eq_none (by simpa using hl)]
   ·rfl
theorem lM (r:List En):∀ k,(eO r k).1.map dJ=r.map dJ
 | 0=>rfl
 | k+1=>by rw [jh,qZ,lM r k]
theorem ng (r:List En) (k:Nat):(eO r k).1.length=r.length:=by
 have h:=congrArg List.length (lM r k);simpa using h
theorem tO (r:List En):∀ k,(eO r k).2.length<=k
 | 0=>au _
 | k+1=>by
  have ih:=tO r k;rw [jh];unfold iK
  split
  ·omega
  ·split
   ·omega
   ·simp; omega
theorem BU {r r':List En} {t:dQ} (h:r'.map dJ=r.map dJ) (hr:∀ e∈r,e.tree=t):∀ e∈r',e.tree=t:=by
 intro e he;have h1:dJ e∈r.map dJ:=by rw [<- h]; exact bG.2 ⟨e,he,rfl⟩
 obtain⟨z,hz,hk⟩:=bG.1 h1;rw [<- show z.tree=e.tree from congrArg Prod.fst hk];exact hr z hz
theorem yS {a r c:List En} {t:dQ} (ha:∀ e∈a,e.tree≠t) (hr:∀ e∈r,e.tree=t) (hc:∀ e∈c,e.tree≠t):iR t (a++r++c) (a++r++c).length=(a++(eO r r.length).1++c,(eO r r.length).2):=by
 have s1:∀ k,k<=a.length->iR t (a++r++c) k=(a++r++c,[]):=by
  intro k
  induction k with
  | zero=>intro _; rfl
  | succ k ih =>
   intro hk;rw [iY,ih (by omega)];unfold ig;have e1:(a++r++c)[k]?=aI a[k]:=by rw [O,aL (by omega),aj (by omega)]
   rw [e1];simp only;rw [if_neg fun h=>ha _ (aP _) h.1]
 have s2:∀ j,j<=r.length->iR t (a++r++c) (a.length+j)=(a++(eO r j).1++c,(eO r j).2):=by
  intro j
  induction j with
  | zero=>intro _; rw [bH,s1 _ (au _)]; rfl
  | succ j ih =>
   intro hj;have hl:=ng r j;have hk:=BU (lM r j) hr;rw [<- bC,iY,ih (by omega),jh];generalize eO r j=s at *;obtain⟨r',u⟩:=s;simp only at hl hk ⊢;unfold ig iK;have e1:(a++r'++c)[a.length+j]?=r'[j]?:=by rw [O,aK (by omega),ay,aL (by omega)]
   simp only [e1];rw [aj (show j<r'.length by omega)];simp only;have ht:=hk _ (aP (show j<r'.length by omega));rw [Iq ha hk hc];by_cases h1:(r'[j]'(by omega)).up=V\/sw r' (r'[j]'(by omega)).p=V
   ·rw [if_pos h1,if_neg];rintro⟨_,g2,g3⟩;rcases h1 with h1|h1
    ·rw [h1] at g2; cases g2
    ·rw [h1] at g3; cases g3
   ·rw [if_neg h1,if_pos ⟨ht,by simpa using fun q=>h1 (aN q),by simpa using fun q=>h1 (aT q)⟩];have e2:(a++r'++c).set (a.length+j) (wW (r'[j]'(by omega)))=a++r'.set j (wW (r'[j]'(by omega)))++c:=by
     rw [O,List.set_append_right _ _ (by omega),ay,List.set_append_left _ _ (by omega),O]
    rw [e2]
 have s3:∀ j,j<=c.length->iR t (a++r++c) (a.length+r.length+j)=(a++(eO r r.length).1++c,(eO r r.length).2):=by
  intro j
  induction j with
  | zero=>intro _; rw [bH,s2 _ (au _)]
  | succ j ih =>
   intro hj;have hl:=ng r r.length;rw [<- bC,iY,ih (by omega)];unfold ig;have e1:(a++(eO r r.length).1++c)[a.length+r.length+j]?=aI (c[j]'(by omega)):=by
    rw [aK (by rw [ak,hl]; omega),ak,hl,ay,aj (by omega)]
   rw [e1];simp only;rw [if_neg fun h=>hc _ (aP _) h.1]
 have h:=s3 c.length (au _);rw [ak,ak];exact h
theorem Ca (x:iw) (t s:dQ) (r:Bool) (hr:gF (wL x) (t,s)=r) (w:World):Calls Q 137 #[rV x,oJ t,oJ s] w fun e w'=>e=L (aU r)/\Below w.heap.size w w':=by
 obtain⟨y1,y2,y3,y4,⟨yo,yn,yc⟩,y6,y7⟩:=x;obtain⟨c,d⟩:=t;obtain⟨g,h⟩:=s;obtain⟨h0,X,Y,Z⟩:=iA w #[aD aF y1,aD aF y2,aD aF y3,aD aF y4,bf yo yn yc,aD aF y6,aU y7] #[aD aF c,aD aF d] #[aD aF g,aD aF h] 67 23 23;have x1:=X.cell 1;have x0:=X.cell 0;have x2:=X.cell 2;have x3:=X.cell 3;obtain⟨c0,c1⟩:=Y.cs2;obtain⟨d0,d1⟩:=Z.cs2;simp only [List.getElem?_toArray,List.getElem?_cons_zero,List.getElem?_cons_succ] at x0 x1 x2 x3;have C1:=lU (y1,y2) (c,d);have C2:=lU (y3,y4) (g,h);have B:=U h0;have he:gF ((y1,y2),(y3,y4)) ((c,d),(g,h))=if ((y1,y2):dQ)=(c,d) then dB (y3,y4) (g,h) else dB (y1,y2) (c,d):=by
  unfold gF;by_cases q:((y1,y2):dQ)=(c,d)
  ·rw [if_pos q,q,gB,(qh _ _).2 rfl]; rfl
  ·rw [if_neg q,aZ.2 fun q2=>q ((qh _ _).1 q2)]; simp
 clear h0 X Y Z;by_cases q:((y1,y2):dQ)=(c,d)
 ·have hr2:=U (show dB (y3,y4) (g,h)=r by rw [<- hr]; show _=gF ((y1,y2),(y3,y4)) ((c,d),(g,h)); rw [he,if_pos q]);obtain⟨rfl,rfl⟩:y1=c/\y2=d:=by simpa using q
  have hne:=MI y1 y2 y1 y2 aY (by simp);clear he hr q;go_enter bI,bD;go_wp2_with fail;refine (C2 _).mono ?_;rintro e w1 ⟨rfl,hb⟩;go_wp2;go_ret;exact⟨congrArg (fun b=>L (aU b)) hr2.out,B.out.trans (hb.mono B.out.size)⟩
 ·have hr2:=U (show dB (y1,y2) (c,d)=r by rw [<- hr]; show _=gF ((y1,y2),(y3,y4)) ((c,d),(g,h)); rw [he,if_neg q]);have hne:=MI y1 y2 c d V (by rw [show (y1 == c && y2 == d)=aY from aZ.2 fun h=>q (by simp at h; rw [h.1,h.2])]; rfl);clear he hr q;go_enter bI,bD;go_wp2_with fail;refine (C1 _).mono ?_;rintro e w1 ⟨rfl,hb⟩;go_wp2;go_ret;exact⟨congrArg (fun b=>L (aU b)) hr2.out,B.out.trans (hb.mono B.out.size)⟩
theorem nk (g:Nat) (cb:Array Value) (eg:∀ args w,(callFunc g args).run Q w=.ok (.enter g args) w) (n k:Nat) (p:Nat->Bool) (w:World) (hn:n<=1000000)
  (hf:∀ i,i<n->∀ W,Below w.heap.size w W->Calls Q g (#[aD aF i]++cb) W fun e w'=>e=L (aU (p i))/\Below W.heap.size W w')
  (hk:k<=n) (hlo:∀ i,i<k->p i=aY) (hhi:∀ i,k<=i->i<n->p i=V) :
  Calls Q 110 #[aD aF n,.func (.func g) #[] cb] w fun e w'=>e=L (aD aF k)/\Below w.heap.size w w':=by
 have HF:=U hf;have LO:=U hlo;have HI:=U hhi;clear hf hlo hhi;go_enter Tryz.func110,Tryz.ntmps110;go_wp2
 go_loopg [5,6] n (fun kx s5 s6 wr=>∃ lo hi:Nat,s5=aD aF lo/\s6=aD aF hi/\lo<=k/\k<=hi/\hi<=n/\hi-lo<=kx/\Below w.heap.size w wr)
 case atStart=>exact⟨0,n,rfl,rfl,Nat.zero_le _,hk,au _,by omega,Below.refl _ _⟩
 case round =>
  obtain⟨lo,hi,rfl,rfl,hlk,hkh,hin,hg,hb⟩:=hrel;have B:=U hb;clear hb;by_cases hlt:lo<hi
  ·have hc:=HF.out ((lo+hi) / 2) (by omega) wr B.out;rw [show (((lo+hi) / 2:Nat):Int)=((lo:Int)+(hi:Int)) / 2 by omega] at hc;cases hp:p ((lo+hi) / 2) <;> rw [hp] at hc
   ·have HP:=U hp;have HK:=U (show (lo+hi) / 2+1<=k from by
     rcases bJ ((lo+hi) / 2) k with h|h
     ·exact h
     ·have:=HI.out _ h (by omega); rw [hp] at this; cases this)
    clear hp;go_wp2_with (go_at_fn g; refine hc.mono ?_; rintro e w' ⟨rfl,hb2⟩)
    go_roundg (hi-((lo+hi) / 2+1))
    case measure=>omega
    case rel=>exact⟨(lo+hi) / 2+1,hi,by rw [show ((lo:Int)+(hi:Int)) / 2+1=(((lo+hi) / 2+1:Nat):Int) by omega],rfl,HK.out,hkh,hin,au _,B.out.trans (hb2.mono B.out.size)⟩
   ·have HP:=U hp;have HK:=U (show k<=(lo+hi) / 2 from by
     rcases bJ ((lo+hi) / 2) k with h|h
     ·have:=LO.out _ h; rw [hp] at this; cases this
     ·exact h)
    clear hp;go_wp2_with (go_at_fn g; refine hc.mono ?_; rintro e w' ⟨rfl,hb2⟩)
    go_roundg ((lo+hi) / 2-lo)
    case measure=>omega
    case rel=>exact⟨lo,(lo+hi) / 2,rfl,by rw [show ((lo:Int)+(hi:Int)) / 2=(((lo+hi) / 2:Nat):Int) by omega],hlk,HK.out,by omega,au _,B.out.trans (hb2.mono B.out.size)⟩
  ·obtain rfl:hi=lo:=by omega
   obtain rfl:hi=k:=by omega
   go_wp2;go_ret;exact⟨rfl,B.out⟩
theorem q8 {W W1:World} {v:Value} {l:List iw} {ao:Option Addr} {n c k:Nat} {x:iw} (h:lC W v l) (hv:v=bf ao n c) (hn:l.length=n) (hk:l[k]?=aI x) (hb:Below W.heap.size W W1) :
  ∃ p:Addr,(∀ w,(Instr.indexAt 27 (bf ao n c) (aD aF k)).run Q w=.ok (aV (aI p)) w) /\
   (∀ d os,(grow (redrawn W1 d) os).cell? p=aI (aD aF x.1))/\(∀ d os,(grow (redrawn W1 d) os).cell? ⟨p.block,p.off+1,bF⟩=aI (aD aF x.2.1)) /\
   (∀ d os,(grow (redrawn W1 d) os).cell? ⟨p.block,p.off+2,bF⟩=aI (aD aF x.2.2.1))/\(∀ d os,(grow (redrawn W1 d) os).cell? ⟨p.block,p.off+3,bF⟩=aI (aD aF x.2.2.2.1)) /\
   (∀ d os,(grow (redrawn W1 d) os).cell? ⟨p.block,p.off+4,bF⟩=aI (dH x.2.2.2.2.1))/\(∀ d os,(grow (redrawn W1 d) os).cell? ⟨p.block,p.off+5,bF⟩=aI (aD aF x.2.2.2.2.2.1)) /\
   (∀ d os,(grow (redrawn W1 d) os).cell? ⟨p.block,p.off+6,bF⟩=aI (aU x.2.2.2.2.2.2)):=by
 obtain⟨p,h1,h2⟩:=Pg h hv hn hk;obtain⟨c0,c1,c2,c3,c4,c5,c6⟩:=h2 _ hb;exact⟨p,h1,cell_regrown c0,cell_regrown c1,cell_regrown c2,cell_regrown c3,cell_regrown c4,cell_regrown c5,cell_regrown c6⟩
theorem Ir (args:Array Value) (w:World):(callFunc 136 args).run Q w=.ok (.enter 136 args) w:=fu bK rfl rfl args w
theorem Iu (args:Array Value) (w:World):(callFunc 132 args).run Q w=.ok (.enter 132 args) w:=fu bL rfl rfl args w
theorem Iw (i:Nat) (b1 b2 b3:Nat) (ao:Option Addr) (n ac:Nat) (l:List iw) (t s:dQ) (y:iw) (r:Bool) (w:World) (hv:lC w (bf ao n ac) l) (hn:l.length=n) (hy:l[i]?=aI y) (hr:(!gF (wL y) (t,s))=r)
  (h1:cZ w b1 #[bf ao n ac] 27) (h2:cZ w b2 #[aD aF t.1,aD aF t.2] 23) (h3:cZ w b3 #[aD aF s.1,aD aF s.2] 23) :
  Calls Q 136 #[aD aF i,aV (aI ⟨b1,0,bF⟩),aV (aI ⟨b2,0,bF⟩),aV (aI ⟨b3,0,bF⟩)] w fun e w'=>e=L (aU r)/\Below w.heap.size w w':=by
 obtain⟨p,ix,p0,p1,p2,p3,p4,p5,p6⟩:=q8 hv rfl hn hy (Below.refl _ _);have a0:=cell_regrown (h1.cell 0);have b0:=cell_regrown (h2.cell 0);have b1':=cell_regrown (h2.cell 1);have c0:=cell_regrown (h3.cell 0);have c1:=cell_regrown (h3.cell 1);obtain⟨q,hq⟩:∃ q,gF (wL y) (t,s)=q:=⟨_,rfl⟩;have C:∀ k os,Calls Q 137 #[rV y,oJ t,oJ s] (grow (redrawn w k) os) fun e w''=>e=L (aU q)/\∃ p:Regrown,w''=grow (redrawn w p.d) p.os:=fun k os=>Calls.regrown_of (Ca y t s q hq _);rw [hq] at hr;have R:=U hr;have BN:=U (fun dq osq=>below_regrown w dq osq);obtain⟨y1,y2,y3,y4,⟨yo,yn,yc⟩,y6,y7⟩:=y;obtain⟨c,d⟩:=t;obtain⟨g,h⟩:=s;simp only at p0 p1 p2 p3 p4 p5 p6 b0 b1' c0 c1 C;clear hv hn hy hr hq h1 h2 h3;go_enter bK,Tryz.ntmps136;go_wp2;refine wp_region_quiet_below (by kernel_rfl) (by kernel_rfl) ?_
 repeat (go_big_quiet_step (first | (with_reducible exact C _ _) | exact KU _ _))
 refine wpQuiet_nil ?_;intro _ hw';obtain⟨⟨dq,osq⟩,hw''⟩:=hw';subst hw'';go_wp2;go_ret;exact⟨congrArg (fun b=>L (aU b)) R.out,BN.out _ _⟩
theorem Iy (i:Nat) (b1 b2:Nat) (ao:Option Addr) (n ac:Nat) (l:List iw) (t:dQ) (y:iw) (r:Bool) (w:World) (hv:lC w (bf ao n ac) l) (hn:l.length=n) (hy:l[i]?=aI y) (hr:(!dB (y.1,y.2.1) t)=r)
  (h1:cZ w b1 #[bf ao n ac] 27) (h2:cZ w b2 #[aD aF t.1,aD aF t.2] 23) :
  Calls Q 132 #[aD aF i,aV (aI ⟨b1,0,bF⟩),aV (aI ⟨b2,0,bF⟩)] w fun e w'=>e=L (aU r)/\Below w.heap.size w w':=by
 obtain⟨p,ix,p0,p1,p2,p3,p4,p5,p6⟩:=q8 hv rfl hn hy (Below.refl _ _);have a0:=cell_regrown (h1.cell 0);have b0:=cell_regrown (h2.cell 0);have b1':=cell_regrown (h2.cell 1);have C:∀ k os,Calls Q 31 #[oJ (y.1,y.2.1),oJ t] (grow (redrawn w k) os) fun e w''=>e=L (aU (dB (y.1,y.2.1) t))/\∃ p:Regrown,w''=grow (redrawn w p.d) p.os:=fun k os=>Calls.regrown_of (lU (y.1,y.2.1) t _);generalize dB (y.1,y.2.1) t=q at *;have R:=U hr;have BN:=U (fun dq osq=>below_regrown w dq osq);obtain⟨y1,y2,y3,y4,⟨yo,yn,yc⟩,y6,y7⟩:=y;obtain⟨c,d⟩:=t;simp only at p0 p1 p2 p3 p4 p5 p6 b0 b1' C;clear hv hn hy hr h1 h2 p2 p3 p4 p5 p6;go_enter bL,Tryz.ntmps132;go_wp2;refine wp_region_quiet_below (by kernel_rfl) (by kernel_rfl) ?_
 repeat (go_big_quiet_step (first | (with_reducible exact C _ _) | exact Cb _ _))
 refine wpQuiet_nil ?_;intro _ hw';obtain⟨⟨dq,osq⟩,hw''⟩:=hw';subst hw'';go_wp2;go_ret;exact⟨congrArg (fun b=>L (aU b)) R.out,BN.out _ _⟩
end Sb
end Go.Proofs.YtghlpefopidlaaaGreat
