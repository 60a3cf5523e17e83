/-
  Forget of package ad. Conditions as told.
-/
import Derived.Test.YtncogjpmboglhaaGreatF027
import Derived.Test.YtncogjpmboglhaaGreatF025
import Derived.Test.YtncogjpmboglhaaGreatF024
import Derived.Test.YtncogjpmboglhaaGreatF013
import Derived.Test.YtncogjpmboglhaaGreatF018
import Derived.Deep.LoopGhost
import Derived.Laws.Externs
import Derived.Shelf.Abstract
set_option maxRecDepth 100000
set_option maxHeartbeats 64000000
namespace Go.Proofs.YtncogjpmboglhaaGreat.Av
open Go.RowKit Go.Sort Rw YtncogjpmboglhaaGreat.Nm Pr Bk
def forgetF (b:Br) (x:XID) (f:Int):Br×Bool:=match findA b.adv x with
 | none=>(b,false)
 | some a=>if a.par=f then ({ b with adv:=b.adv.filter fun e=>decide (e.id≠x),ent:=b.ent.filter fun e=>decide (e.tree≠x) },true) else (b,false)
theorem filter_cut {al:List Ad} (hr:RiseA al) {k:Nat} {a:Ad} {x:XID} (hk:al[k]?=some a) (hx:a.id=x):al.filter (fun e=>decide (e.id≠x))=cutAt al k:=by
 subst hx
 unfold cutAt
 have h1:al=al.take k++(a::al.drop (k+1)):=by
  have hlt:=(List.getElem?_eq_some_iff.1 hk).1
  have he:=(List.getElem?_eq_some_iff.1 hk).2
  rw [← he,List.getElem_cons_drop,List.take_append_drop]
 conv=>lhs; rw [h1]
 rw [List.filter_append,List.filter_cons_of_neg (by simp)]
 have hp:=List.pairwise_iff_getElem.1 hr
 have e1:(al.take k).filter (fun e=>decide (e.id≠a.id))=al.take k:=by
  rw [List.filter_eq_self]
  intro y hy
  obtain⟨j,hj⟩:=List.mem_iff_getElem?.1 hy
  have hjl:=(List.getElem?_eq_some_iff.1 hj).1
  rw [List.length_take] at hjl
  rw [List.getElem?_take_of_lt (by omega)] at hj
  have:=riseK_lt hr (show j<k by omega) hj hk
  refine decide_eq_true fun e=>?_
  rw [e,lessI_irr] at this
  cases this
 have e2:(al.drop (k+1)).filter (fun e=>decide (e.id≠a.id))=al.drop (k+1):=by
  rw [List.filter_eq_self]
  intro y hy
  obtain⟨j,hj⟩:=List.mem_iff_getElem?.1 hy
  rw [List.getElem?_drop] at hj
  have:=riseK_lt hr (show k<k+1+j by omega) hk hj
  refine decide_eq_true fun e=>?_
  rw [e,lessI_irr] at this
  cases this
 rw [e1,e2]
theorem forgetF_eq {b:Br} (hr:RiseA b.adv) (x:XID) (f:Int):forgetF b x f=forgetB b x f:=by
 unfold forgetF forgetB
 by_cases h:findI (b.adv.map Ad.id) x=-1
 ·have hn:findA b.adv x=none:=findA_none fun j a hj=>findI_neg (key:=Ad.id) h j a hj
  rw [hn]
  cases b.adv[(findI (b.adv.map Ad.id) x).toNat]? with
  | none=>rfl
  | some a=>simp only; rw [if_pos h]
 ·obtain⟨k,hk⟩:∃ k:Nat,findI (b.adv.map Ad.id) x=k:=⟨(findI (b.adv.map Ad.id) x).toNat,by have:=findI_bd (b.adv.map Ad.id) x; omega⟩
  obtain⟨g1,g2⟩:=findI_get hk
  rw [List.getElem?_map] at g1
  cases ha:b.adv[k]? with
  | none=>rw [ha] at g1; cases g1
  | some a =>
   rw [ha] at g1
   have hx:a.id=x:=Option.some.inj g1
   have hf:findA b.adv x=some a:=findA_at ha hx fun j z hj hz=>g2 j z.id hj (by rw [List.getElem?_map,hz]; rfl)
   rw [hf,hk,Int.toNat_natCast,ha]
   simp only
   rw [if_neg (show ¬ ((k:Int)=-1) by omega)]
   split
   ·rw [filter_cut hr ha hx]
   ·rfl
def okEn (b:Br) (e:En):Bool:=match findA b.adv e.tree with
 | none=>false
 | some a=>!(e.from_ == a.par && !(a.par == -1)) && (comesB b.near e.from_ && (!(e.up && a.par == -1) && Wr.rightP e.p))
abbrev cEn (a b:En):Int:=orI (cmpJ a.tree b.tree) (cmpJ a.sub b.sub)
theorem cEn_neg (a b:En):cEn a b<0↔(lessI a.tree b.tree=true∨(a.tree=b.tree∧lessI a.sub b.sub=true)):=by
 unfold cEn orI
 by_cases h:cmpJ a.tree b.tree=0
 ·rw [if_pos h,cmpJ_neg]
  have e:=(cmpJ_zero _ _).1 h
  constructor
  ·exact fun q=>Or.inr ⟨e,q⟩
  ·rintro (q|⟨_,q⟩)
   ·rw [e,lessI_irr] at q; cases q
   ·exact q
 ·rw [if_neg h,cmpJ_neg]
  constructor
  ·exact Or.inl
  ·rintro (q|⟨q,_⟩)
   ·exact q
   ·exact absurd ((cmpJ_zero _ _).2 q) h
theorem cEn_tr (x y z:En) (h1:cEn x y<0) (h2:cEn y z<0):cEn x z<0:=by
 rw [cEn_neg] at *
 rcases h1 with h1|⟨e1,h1⟩ <;> rcases h2 with h2|⟨e2,h2⟩
 ·exact Or.inl (lessI_trans h1 h2)
 ·exact Or.inl (by rw [← e2]; exact h1)
 ·exact Or.inl (by rw [e1]; exact h2)
 ·exact Or.inr ⟨e1.trans e2,lessI_trans h1 h2⟩
structure OkBr (b:Br):Prop where
 near:b.near.Pairwise (·<·)
 seen:RiseI b.seen
 adv:RiseA b.adv
 ent:b.ent.Pairwise fun x y=>cEn x y<0
 own:RiseK Ow.id b.own
 oks:∀ a∈b.adv,a.id∈b.seen∧comesB b.near a.par=true∧Wr.rightP a.p=true
 oke:∀ e∈b.ent,okEn b e=true
 oko:∀ o∈b.own,Wr.rightP o.p=true
theorem mem_ins {α:Type} (l:List α) (k:Nat) (x y:α):y∈insAt l k x↔y=x∨y∈l:=by
 unfold insAt
 rw [List.mem_append,List.mem_append,List.mem_singleton]
 conv=>rhs; rw [← List.take_append_drop k l,List.mem_append]
 constructor
 ·rintro ((h|h)|h)
  ·exact Or.inr (Or.inl h)
  ·exact Or.inl h
  ·exact Or.inr (Or.inr h)
 ·rintro (h|h|h)
  ·exact Or.inl (Or.inr h)
  ·exact Or.inl (Or.inl h)
  ·exact Or.inr h
theorem place_lo {α:Type} (key:α→XID):∀ (l:List α) (x:XID),∀ y∈l.take (placeK key l x),lessI (key y) x=true
 | [],_,y,h=>by simp at h
 | a::l,x,y,h=>by
  unfold placeK at h
  by_cases ha:lessI (key a) x=true
  ·simp only [List.takeWhile_cons,ha,if_true,List.length_cons,List.take_succ_cons,List.mem_cons] at h
   rcases h with rfl|h
   ·exact ha
   ·exact place_lo key l x y h
  ·simp [ha] at h
theorem place_hi {α:Type} {key:α→XID}:∀ {l:List α} (_:RiseK key l) (x:XID) (_:∀ y∈l,key y≠x),∀ y∈l.drop (placeK key l x),lessI x (key y)=true
 | [],_,_,_,y,h=>by simp at h
 | a::l,hr,x,hn,y,h=>by
  unfold placeK at h
  have hr':=List.pairwise_cons.1 hr
  by_cases ha:lessI (key a) x=true
  ·simp only [List.takeWhile_cons,ha,if_true,List.length_cons,List.drop_succ_cons] at h
   exact place_hi hr'.2 x (fun y hy=>hn y (List.mem_cons_of_mem _ hy)) y h
  ·simp [ha] at h
   have hax:lessI x (key a)=true:=by
    rcases lessI_total (key a) x with q|q|q
    ·exact absurd q ha
    ·exact absurd q (hn a (by simp))
    ·exact q
   rcases h with rfl|h
   ·exact hax
   ·exact lessI_trans hax (hr'.1 y h)
theorem ins_rise {α:Type} {key:α→XID} {l:List α} (hr:RiseK key l) (x:α) (hn:∀ y∈l,key y≠key x):RiseK key (insAt l (placeK key l (key x)) x):=by
 unfold insAt
 have h1:RiseK key (l.take (placeK key l (key x))):=hr.sublist (List.take_sublist _ _)
 have h2:RiseK key (l.drop (placeK key l (key x))):=hr.sublist (List.drop_sublist _ _)
 have lo:=place_lo key l (key x)
 have hi:=place_hi hr (key x) hn
 unfold RiseK at *
 rw [List.append_assoc,List.pairwise_append]
 refine⟨h1,?_,fun a ha b hb=>?_⟩
 ·rw [List.singleton_append,List.pairwise_cons]
  exact⟨fun b hb=>hi b hb,h2⟩
 ·rw [List.singleton_append,List.mem_cons] at hb
  rcases hb with rfl|hb
  ·exact lo a ha
  ·exact lessI_trans (lo a ha) (hi b hb)
theorem findA_some {l:List Ad} {x:XID} {a:Ad} (h:findA l x=some a):a∈l∧a.id=x:=by
 unfold findA at h
 exact⟨List.mem_of_find?_eq_some h,by simpa using List.find?_some h⟩
theorem findA_uniq {l:List Ad} (hr:RiseA l) {a:Ad} (ha:a∈l):findA l a.id=some a:=by
 obtain⟨k,hk⟩:=List.mem_iff_getElem?.1 ha
 refine findA_at hk rfl fun j z hj hz e=>?_
 have:=riseK_lt hr hj hz hk
 rw [e,lessI_irr] at this
 cases this
theorem findA_of {l m:List Ad} (hl:RiseA l) (hm:RiseA m) {x:XID} (h:∀ a,a.id=x→(a∈l↔a∈m)):findA l x=findA m x:=by
 cases h1:findA l x with
 | none =>
  cases h2:findA m x with
  | none=>rfl
  | some a =>
   obtain⟨q1,q2⟩:=findA_some h2
   have:=findA_uniq hl ((h a q2).2 q1)
   rw [q2,h1] at this
   cases this
 | some a =>
  obtain⟨q1,q2⟩:=findA_some h1
  have:=findA_uniq hm ((h a q2).1 q1)
  rw [q2] at this
  exact this.symm
theorem okEn_of {b c:Br} {e:En} (hn:c.near=b.near) (hf:findA c.adv e.tree=findA b.adv e.tree) (h:okEn b e=true):okEn c e=true:=by
 unfold okEn at *
 rw [hf,hn]
 exact h
theorem learn_ok {b:Br} (h:OkBr b) (a:Ad) (hp:comesB b.near a.par=true) (hq:Wr.rightP a.p=true):OkBr (learnB b a).1:=by
 by_cases hin:a.id∈b.seen
 ·rw [learnB_in hin]; exact h
 ·rw [learnB_out hin]
  have hna:∀ y∈b.adv,y.id≠a.id:=fun y hy e=>hin (by rw [← e]; exact (h.oks y hy).1)
  have hns:∀ y∈b.seen,y≠a.id:=fun y hy e=>hin (by rw [← e]; exact hy)
  have ra:RiseA (insAt b.adv (placeI (b.adv.map Ad.id) a.id) a):=by
   rw [← placeK_map]
   exact ins_rise h.adv a hna
  have rs:RiseI (insAt b.seen (placeI b.seen a.id) a.id):=by
   have:=ins_rise (key:=fun x:XID=>x) h.seen a.id hns
   rw [placeK_map,List.map_id'] at this
   exact this
  refine⟨h.near,rs,ra,h.ent,h.own,fun y hy=>?_,fun e he=>?_,h.oko⟩
  ·rcases (mem_ins _ _ _ _).1 hy with rfl|hy
   ·exact⟨(mem_ins _ _ _ _).2 (Or.inl rfl),hp,hq⟩
   ·exact⟨(mem_ins _ _ _ _).2 (Or.inr (h.oks y hy).1),(h.oks y hy).2⟩
  ·refine okEn_of (b:=b) rfl (findA_of ra h.adv fun y hy=>?_) (h.oke e he)
   rw [mem_ins]
   refine⟨fun q=>q.resolve_left fun e2=>?_,Or.inr⟩
   have hk:=h.oke e he
   unfold okEn at hk
   cases hf:findA b.adv e.tree with
   | none=>rw [hf] at hk; cases hk
   | some z =>
    obtain⟨z1,z2⟩:=findA_some hf
    exact hna z z1 (by rw [z2,← hy,e2])
theorem forget_ok {b:Br} (h:OkBr b) (x:XID) (f:Int):OkBr (forgetF b x f).1:=by
 unfold forgetF
 cases findA b.adv x with
 | none=>exact h
 | some a =>
  simp only
  split
  ·have ra:RiseA (b.adv.filter fun e=>decide (e.id≠x)):=h.adv.sublist List.filter_sublist
   refine⟨h.near,h.seen,ra,h.ent.sublist List.filter_sublist,h.own,fun y hy=>h.oks y ((List.mem_filter.1 hy).1),fun e he=>?_,h.oko⟩
   have ht:e.tree≠x:=of_decide_eq_true (List.mem_filter.1 he).2
   refine okEn_of (b:=b) rfl (findA_of ra h.adv fun y hy=>?_) (h.oke e (List.mem_filter.1 he).1)
   rw [List.mem_filter]
   exact⟨fun q=>q.1,fun q=>⟨q,decide_eq_true (by rw [hy]; exact ht)⟩⟩
  ·exact h
end Go.Proofs.YtncogjpmboglhaaGreat.Av
namespace Go.Proofs.YtncogjpmboglhaaGreat.Sb
open Go.RowKit Go.Sort Rw YtncogjpmboglhaaGreat.Nm Pr Bk Av
abbrev RiseE (m:List En):Prop:=m.Pairwise fun x y=>cEn x y<0
def fromT (m:List En) (t:XID):Nat:=(m.takeWhile fun e=>lessI e.tree t).length
def brE (m:List En) (t:XID):List En:=(m.drop (fromT m t)).takeWhile fun e=>decide (e.tree=t)
def covB (r:List En) (p:List C5):Bool:=r.any fun e=>e.up && coversC e.p p
def tightR (r:List En):Bool:=r.all fun e=>e.up || covB r e.p
def tightB (b:Br):Bool:=b.adv.all fun a=>a.par == -1 || tightR (brE b.ent a.id)
def raiseStep (s:List En×List En) (k:Nat):List En×List En:=match s.1[k]? with
 | none=>s
 | some e=>if e.up=true∨covB s.1 e.p=true then s else (s.1.set k (upE e),s.2++[upE e])
def raiseK (r:List En) (k:Nat):List En×List En:=(List.range k).foldl raiseStep (r,[])
theorem raiseK_succ (r:List En) (k:Nat):raiseK r (k+1)=raiseStep (raiseK r k) k:=by
 simp [raiseK,List.range_succ]
theorem lessP_iff (x y:En):lessP (keyE x) (keyE y)=true↔cEn x y<0:=by
 rw [cEn_neg]
 unfold lessP
 simp [eqI_iff]
theorem lessP_irr (x:XID×XID):lessP x x=false:=by simp [lessP,lessI_irr]
def thereE (m:List En) (t s:XID):Bool:=match m[placeP (m.map keyE) (t,s)]? with
 | none=>false
 | some e=>decide (keyE e=(t,s))
theorem take_less:∀ (l:List (XID×XID)) (x:XID×XID) (j:Nat) (y:XID×XID),j<placeP l x→l[j]?=some y→lessP y x=true
 | [],_,_,_,_,h=>by simp at h
 | a::l,x,j,y,hj,h=>by
  unfold placeP at hj
  by_cases ha:lessP a x=true
  ·rw [List.takeWhile_cons,if_pos ha,List.length_cons] at hj
   cases j with
   | zero=>rw [← Option.some.inj (show some a=some y from h)]; exact ha
   | succ j=>exact take_less l x j y (by unfold placeP; omega) (by simpa using h)
  ·rw [List.takeWhile_cons,if_neg ha] at hj
   simp at hj
theorem place_not:∀ (l:List (XID×XID)) (x y:XID×XID),l[placeP l x]?=some y→lessP y x=false
 | [],_,_,h=>by simp [placeP] at h
 | a::l,x,y,h=>by
  unfold placeP at h
  by_cases ha:lessP a x=true
  ·rw [List.takeWhile_cons,if_pos ha,List.length_cons] at h
   exact place_not l x y (by unfold placeP; simpa using h)
  ·rw [List.takeWhile_cons,if_neg ha] at h
   rw [← Option.some.inj (show some a=some y from h)]
   simpa using ha
theorem find_there {m:List En} (hr:RiseE m) (t s:XID):findK (m.map keyE) (t,s)=if thereE m t s=true then (placeP (m.map keyE) (t,s):Int) else -1:=by
 unfold thereE
 cases hp:m[placeP (m.map keyE) (t,s)]? with
 | none =>
  rw [if_neg (by simp)]
  refine findK_none _ _ fun j y hj e=>?_
  have hl:m.length≤placeP (m.map keyE) (t,s):=List.getElem?_eq_none_iff.1 hp
  have hj2:=(List.getElem?_eq_some_iff.1 hj).1
  rw [List.length_map] at hj2
  have h:=take_less _ (t,s) j y (by omega) hj
  rw [e,lessP_irr] at h
  cases h
 | some e =>
  have hpk:(m.map keyE)[placeP (m.map keyE) (t,s)]?=some (keyE e):=by rw [List.getElem?_map,hp]; rfl
  by_cases he:keyE e=(t,s)
  ·simp only [he,decide_true,if_true]
   rw [he] at hpk
   refine findK_at _ _ _ hpk fun j z hj hz q=>?_
   have h:=take_less _ (t,s) j z hj hz
   rw [q,lessP_irr] at h
   cases h
  ·rw [if_neg (by simpa using he)]
   refine findK_none _ _ fun j y hj q=>?_
   rcases Nat.lt_trichotomy j (placeP (m.map keyE) (t,s)) with h|h|h
   ·have h:=take_less _ (t,s) j y h hj
    rw [q,lessP_irr] at h
    cases h
   ·subst h
    rw [hpk] at hj
    exact he ((Option.some.inj hj).trans q)
   ·rw [List.getElem?_map] at hj
    cases hz:m[j]? with
    | none=>rw [hz] at hj; cases hj
    | some z =>
     rw [hz] at hj
     have h1:=List.pairwise_iff_getElem.1 hr _ _ (List.getElem?_eq_some_iff.1 hp).1 (List.getElem?_eq_some_iff.1 hz).1 h
     rw [(List.getElem?_eq_some_iff.1 hp).2,(List.getElem?_eq_some_iff.1 hz).2,← lessP_iff] at h1
     have h2:=place_not _ _ _ hpk
     rw [show keyE z=(t,s) from (Option.some.inj hj).trans q] at h1
     rw [h1] at h2
     cases h2
theorem tree_le {x y:En} (h:cEn x y<0):lessI x.tree y.tree=true∨x.tree=y.tree:=by
 rcases (cEn_neg x y).1 h with q|q
 ·exact Or.inl q
 ·exact Or.inr q.1
theorem drop_len {α:Type} (p:α→Bool):∀ l:List α,l.drop (l.takeWhile p).length=l.dropWhile p
 | []=>rfl
 | a::l=>by
  by_cases h:p a=true
  ·simp [h,drop_len p l]
  ·simp [h]
theorem lo_out:∀ {m:List En} (t:XID) (_:RiseE m),∀ e∈m.dropWhile (fun e=>lessI e.tree t),lessI e.tree t=false
 | [],_,_,e,h=>by simp at h
 | a::m,t,hr,e,h=>by
  have hr':=List.pairwise_cons.1 hr
  by_cases ha:lessI a.tree t=true
  ·rw [List.dropWhile_cons,if_pos ha] at h
   exact lo_out t hr'.2 e h
  ·rw [List.dropWhile_cons,if_neg ha] at h
   rcases List.mem_cons.1 h with rfl|h
   ·simpa using ha
   ·cases hq:lessI e.tree t with
    | false=>rfl
    | true =>
     exfalso
     rcases tree_le (hr'.1 e h) with q|q
     ·exact ha (lessI_trans q hq)
     ·exact ha (by rw [q]; exact hq)
theorem hi_out:∀ {m:List En} (t:XID) (_:RiseE m) (_:∀ e∈m,lessI e.tree t=false),∀ e∈m.dropWhile (fun e=>decide (e.tree=t)),lessI t e.tree=true
 | [],_,_,_,e,h=>by simp at h
 | a::m,t,hr,hl,e,h=>by
  have hr':=List.pairwise_cons.1 hr
  by_cases ha:a.tree=t
  ·rw [List.dropWhile_cons,if_pos (by simpa using ha)] at h
   exact hi_out t hr'.2 (fun e he=>hl e (List.mem_cons_of_mem _ he)) e h
  ·rw [List.dropWhile_cons,if_neg (by simpa using ha)] at h
   have hta:lessI t a.tree=true:=by
    rcases lessI_total a.tree t with q|q|q
    ·rw [hl a (by simp)] at q; cases q
    ·exact absurd q ha
    ·exact q
   rcases List.mem_cons.1 h with rfl|h
   ·exact hta
   ·rcases tree_le (hr'.1 e h) with q|q
    ·exact lessI_trans hta q
    ·rw [← q]; exact hta
theorem ne_less {x t:XID} (h:lessI x t=true):x≠t:=by rintro rfl; rw [lessI_irr] at h; cases h
theorem br_split {m:List En} (hr:RiseE m) (t:XID):∃ c,m=m.take (fromT m t)++brE m t++c∧(m.take (fromT m t)).length=fromT m t∧(∀ e∈m.take (fromT m t),e.tree≠t)∧(∀ e∈brE m t,e.tree=t)∧(∀ e∈c,e.tree≠t):=by
 have e1:m.take (fromT m t)=m.takeWhile fun e=>lessI e.tree t:=by
  unfold fromT
  conv=>lhs; arg 2; rw [← List.takeWhile_append_dropWhile (p:=fun e:En=>lessI e.tree t) (l:=m)]
  rw [List.take_left]
 have e2:m.drop (fromT m t)=m.dropWhile fun e=>lessI e.tree t:=drop_len _ _
 refine⟨(m.drop (fromT m t)).dropWhile fun e=>decide (e.tree=t),?_,?_,?_,?_,?_⟩
 ·unfold brE
  rw [List.append_assoc,List.takeWhile_append_dropWhile,List.take_append_drop]
 ·rw [e1]; rfl
 ·rw [e1]
  intro e he
  exact ne_less (List.all_eq_true.1 List.all_takeWhile e he)
 ·intro e he
  unfold brE at he
  exact of_decide_eq_true (List.all_eq_true.1 (List.all_takeWhile (p:=fun e:En=>decide (e.tree=t))) e he)
 ·rw [e2]
  intro e he
  have h1:RiseE (m.dropWhile fun e=>lessI e.tree t):=hr.sublist (List.dropWhile_sublist _)
  exact (ne_less (hi_out t h1 (lo_out t hr) e he)).symm
theorem fil_none {α:Type} {p:α→Bool} {l:List α} (h:∀ e∈l,p e=false):l.filter p=[]:=by
 rw [List.filter_eq_nil_iff]
 intro e he
 rw [h e he]
 simp
theorem br_filter {m:List En} (hr:RiseE m) (t:XID):brE m t=m.filter fun e=>decide (e.tree=t):=by
 obtain⟨c,h1,_,h2,h3,h4⟩:=br_split hr t
 generalize brE m t=r at *
 generalize m.take (fromT m t)=a at *
 subst h1
 rw [List.filter_append,List.filter_append,fil_none (l:=a) fun e he=>by simpa using h2 e he,fil_none (l:=c) fun e he=>by simpa using h4 e he,List.nil_append,List.append_nil]
 exact (List.filter_eq_self.2 fun e he=>by simpa using h3 e he).symm
theorem cov_br {m:List En} (hr:RiseE m) (t:XID) (p:List C5):covB (brE m t) p=coveredE m t p:=by
 rw [br_filter hr,covB,List.any_filter]
 rfl
theorem cov_mid {a r c:List En} {t:XID} (ha:∀ e∈a,e.tree≠t) (hr:∀ e∈r,e.tree=t) (hc:∀ e∈c,e.tree≠t) (p:List C5):coveredE (a++r++c) t p=covB r p:=by
 have none_:∀ l:List En,(∀ e∈l,e.tree≠t)→l.any (covE t p)=false:=fun l hl=>by
  rw [List.any_eq_false]
  intro e he
  unfold covE
  rw [decide_eq_false (hl e he)]
  simp
 unfold coveredE covB
 rw [List.any_append,List.any_append,none_ a ha,none_ c hc,Bool.false_or,Bool.or_false]
 induction r with
 | nil=>rfl
 | cons x r ih =>
  rw [List.any_cons,List.any_cons,ih fun e he=>hr e (List.mem_cons_of_mem _ he)]
  congr 1
  unfold covE
  rw [decide_eq_true (hr x (by simp)),Bool.true_and]
theorem raiseStep_keys (s:List En×List En) (k:Nat):(raiseStep s k).1.map keyE=s.1.map keyE:=by
 unfold raiseStep
 split
 ·rfl
 ·rename_i e he
  split
  ·rfl
  ·rw [List.map_set]
   refine List.ext_getElem? fun j=>?_
   rw [List.getElem?_set]
   split
   ·rename_i hj
    subst hj
    split
    ·rw [List.getElem?_map,he]
     rfl
    ·rename_i hl
     rw [List.getElem?_eq_none (by simpa using hl)]
   ·rfl
theorem raiseK_keys (r:List En):∀ k,(raiseK r k).1.map keyE=r.map keyE
 | 0=>rfl
 | k+1=>by rw [raiseK_succ,raiseStep_keys,raiseK_keys r k]
theorem raiseK_len (r:List En) (k:Nat):(raiseK r k).1.length=r.length:=by
 have h:=congrArg List.length (raiseK_keys r k)
 simpa using h
theorem raiseK_up (r:List En):∀ k,(raiseK r k).2.length≤k
 | 0=>Nat.le_refl _
 | k+1=>by
  have ih:=raiseK_up r k
  rw [raiseK_succ]
  unfold raiseStep
  split
  ·omega
  ·split
   ·omega
   ·simp; omega
theorem keys_tree {r r':List En} {t:XID} (h:r'.map keyE=r.map keyE) (hr:∀ e∈r,e.tree=t):∀ e∈r',e.tree=t:=by
 intro e he
 have h1:keyE e∈r.map keyE:=by rw [← h]; exact List.mem_map.2 ⟨e,he,rfl⟩
 obtain⟨z,hz,hk⟩:=List.mem_map.1 h1
 rw [← show z.tree=e.tree from congrArg Prod.fst hk]
 exact hr z hz
theorem take_raise {a r c:List En} {t:XID} (ha:∀ e∈a,e.tree≠t) (hr:∀ e∈r,e.tree=t) (hc:∀ e∈c,e.tree≠t):takeK t (a++r++c) (a++r++c).length=(a++(raiseK r r.length).1++c,(raiseK r r.length).2):=by
 have s1:∀ k,k≤a.length→takeK t (a++r++c) k=(a++r++c,[]):=by
  intro k
  induction k with
  | zero=>intro _; rfl
  | succ k ih =>
   intro hk
   rw [takeK_succ,ih (by omega)]
   unfold takeStep
   have e1:(a++r++c)[k]?=some a[k]:=by rw [List.append_assoc,List.getElem?_append_left (by omega),List.getElem?_eq_getElem (by omega)]
   rw [e1]
   simp only
   rw [if_neg fun h=>ha _ (List.getElem_mem _) h.1]
 have s2:∀ j,j≤r.length→takeK t (a++r++c) (a.length+j)=(a++(raiseK r j).1++c,(raiseK r j).2):=by
  intro j
  induction j with
  | zero=>intro _; rw [Nat.add_zero,s1 _ (Nat.le_refl _)]; rfl
  | succ j ih =>
   intro hj
   have hl:=raiseK_len r j
   have hk:=keys_tree (raiseK_keys r j) hr
   rw [← Nat.add_assoc,takeK_succ,ih (by omega),raiseK_succ]
   generalize raiseK r j=s at *
   obtain⟨r',u⟩:=s
   simp only at hl hk ⊢
   unfold takeStep raiseStep
   have e1:(a++r'++c)[a.length+j]?=r'[j]?:=by rw [List.append_assoc,List.getElem?_append_right (by omega),Nat.add_sub_cancel_left,List.getElem?_append_left (by omega)]
   simp only [e1]
   rw [List.getElem?_eq_getElem (show j<r'.length by omega)]
   simp only
   have ht:=hk _ (List.getElem_mem (show j<r'.length by omega))
   rw [cov_mid ha hk hc]
   by_cases h1:(r'[j]'(by omega)).up=true∨covB r' (r'[j]'(by omega)).p=true
   ·rw [if_pos h1,if_neg]
    rintro⟨_,g2,g3⟩
    rcases h1 with h1|h1
    ·rw [h1] at g2; cases g2
    ·rw [h1] at g3; cases g3
   ·rw [if_neg h1,if_pos ⟨ht,by simpa using fun q=>h1 (Or.inl q),by simpa using fun q=>h1 (Or.inr q)⟩]
    have e2:(a++r'++c).set (a.length+j) (upE (r'[j]'(by omega)))=a++r'.set j (upE (r'[j]'(by omega)))++c:=by
     rw [List.append_assoc,List.set_append_right _ _ (by omega),Nat.add_sub_cancel_left,List.set_append_left _ _ (by omega),List.append_assoc]
    rw [e2]
 have s3:∀ j,j≤c.length→takeK t (a++r++c) (a.length+r.length+j)=(a++(raiseK r r.length).1++c,(raiseK r r.length).2):=by
  intro j
  induction j with
  | zero=>intro _; rw [Nat.add_zero,s2 _ (Nat.le_refl _)]
  | succ j ih =>
   intro hj
   have hl:=raiseK_len r r.length
   rw [← Nat.add_assoc,takeK_succ,ih (by omega)]
   unfold takeStep
   have e1:(a++(raiseK r r.length).1++c)[a.length+r.length+j]?=some (c[j]'(by omega)):=by
    rw [List.getElem?_append_right (by rw [List.length_append,hl]; omega),List.length_append,hl,Nat.add_sub_cancel_left,List.getElem?_eq_getElem (by omega)]
   rw [e1]
   simp only
   rw [if_neg fun h=>hc _ (List.getElem_mem _) h.1]
 have h:=s3 c.length (Nat.le_refl _)
 rw [List.length_append,List.length_append]
 exact h
theorem ahead_any (x:XEn) (t s:XID) (r:Bool) (hr:lessP (keyN x) (t,s)=r) (w:World):Calls Tryz.prog 120 #[valN x,idv t,idv s] w fun e w'=>e=.returned (.bool r)∧Below w.heap.size w w':=by
 obtain⟨y1,y2,y3,y4,⟨yo,yn,yc⟩,y6,y7⟩:=x
 obtain⟨c,d⟩:=t
 obtain⟨g,h⟩:=s
 obtain⟨h0,X,Y,Z⟩:=three_new w #[.int .i64 y1,.int .i64 y2,.int .i64 y3,.int .i64 y4,.slice yo yn yc,.int .i64 y6,.bool y7] #[.int .i64 c,.int .i64 d] #[.int .i64 g,.int .i64 h] 43 38 38
 have x1:=X.cell 1
 have x0:=X.cell 0
 have x2:=X.cell 2
 have x3:=X.cell 3
 obtain⟨c0,c1⟩:=Y.cs2
 obtain⟨d0,d1⟩:=Z.cs2
 simp only [List.getElem?_toArray,List.getElem?_cons_zero,List.getElem?_cons_succ] at x0 x1 x2 x3
 have C1:=aless_any (y1,y2) (c,d)
 have C2:=aless_any (y3,y4) (g,h)
 have B:=Lib.hid h0
 have he:lessP ((y1,y2),(y3,y4)) ((c,d),(g,h))=if ((y1,y2):XID)=(c,d) then lessI (y3,y4) (g,h) else lessI (y1,y2) (c,d):=by
  unfold lessP
  by_cases q:((y1,y2):XID)=(c,d)
  ·rw [if_pos q,q,lessI_irr,(eqI_iff _ _).2 rfl]; rfl
  ·rw [if_neg q,Bool.eq_false_iff.2 fun q2=>q ((eqI_iff _ _).1 q2)]; simp
 clear h0 X Y Z
 by_cases q:((y1,y2):XID)=(c,d)
 ·have hr2:=Lib.hid (show lessI (y3,y4) (g,h)=r by rw [← hr]; show _=lessP ((y1,y2),(y3,y4)) ((c,d),(g,h)); rw [he,if_pos q])
  obtain⟨rfl,rfl⟩:y1=c∧y2=d:=by simpa using q
  have hne:=neId y1 y2 y1 y2 false (by simp)
  clear he hr q
  go_enter Tryz.func120,Tryz.ntmps120
  go_wp2_with fail
  refine (C2 _).mono ?_
  rintro e w1 ⟨rfl,hb⟩
  go_wp2
  go_ret
  exact⟨congrArg (fun b=>Ending.returned (.bool b)) hr2.out,B.out.trans (hb.mono B.out.size)⟩
 ·have hr2:=Lib.hid (show lessI (y1,y2) (c,d)=r by rw [← hr]; show _=lessP ((y1,y2),(y3,y4)) ((c,d),(g,h)); rw [he,if_neg q])
  have hne:=neId y1 y2 c d true (by rw [show (y1 == c && y2 == d)=false from Bool.eq_false_iff.2 fun h=>q (by simp at h; rw [h.1,h.2])]; rfl)
  clear he hr q
  go_enter Tryz.func120,Tryz.ntmps120
  go_wp2_with fail
  refine (C1 _).mono ?_
  rintro e w1 ⟨rfl,hb⟩
  go_wp2
  go_ret
  exact⟨congrArg (fun b=>Ending.returned (.bool b)) hr2.out,B.out.trans (hb.mono B.out.size)⟩
theorem search_any (g:Nat) (cb:Array Value) (eg:∀ args w,(callFunc g args).run Tryz.prog w=.ok (.enter g args) w) (n k:Nat) (p:Nat→Bool) (w:World) (hn:n≤1000000)
  (hf:∀ i,i<n→∀ W,Below w.heap.size w W→Calls Tryz.prog g (#[.int .i64 i]++cb) W fun e w'=>e=.returned (.bool (p i))∧Below W.heap.size W w')
  (hk:k≤n) (hlo:∀ i,i<k→p i=false) (hhi:∀ i,k≤i→i<n→p i=true) :
  Calls Tryz.prog 115 #[.int .i64 n,.func (.func g) #[] cb] w fun e w'=>e=.returned (.int .i64 k)∧Below w.heap.size w w':=by
 have HF:=Lib.hid hf
 have LO:=Lib.hid hlo
 have HI:=Lib.hid hhi
 clear hf hlo hhi
 go_enter Tryz.func115,Tryz.ntmps115
 go_wp2
 go_loopg [5,6] n (fun kx s5 s6 wr=>∃ lo hi:Nat,s5=.int .i64 lo∧s6=.int .i64 hi∧lo≤k∧k≤hi∧hi≤n∧hi-lo≤kx∧Below w.heap.size w wr)
 case atStart=>exact⟨0,n,rfl,rfl,Nat.zero_le _,hk,Nat.le_refl _,by omega,Below.refl _ _⟩
 case round =>
  obtain⟨lo,hi,rfl,rfl,hlk,hkh,hin,hg,hb⟩:=hrel
  have B:=Lib.hid hb
  clear hb
  by_cases hlt:lo<hi
  ·have hc:=HF.out ((lo+hi) / 2) (by omega) wr B.out
   rw [show (((lo+hi) / 2:Nat):Int)=((lo:Int)+(hi:Int)) / 2 by omega] at hc
   cases hp:p ((lo+hi) / 2) <;> rw [hp] at hc
   ·have HP:=Lib.hid hp
    have HK:=Lib.hid (show (lo+hi) / 2+1≤k from by
     rcases Nat.lt_or_ge ((lo+hi) / 2) k with h|h
     ·exact h
     ·have:=HI.out _ h (by omega); rw [hp] at this; cases this)
    clear hp
    go_wp2_with (go_at_fn g; refine hc.mono ?_; rintro e w' ⟨rfl,hb2⟩)
    go_roundg (hi-((lo+hi) / 2+1))
    case measure=>omega
    case rel=>exact⟨(lo+hi) / 2+1,hi,by rw [show ((lo:Int)+(hi:Int)) / 2+1=(((lo+hi) / 2+1:Nat):Int) by omega],rfl,HK.out,hkh,hin,Nat.le_refl _,B.out.trans (hb2.mono B.out.size)⟩
   ·have HP:=Lib.hid hp
    have HK:=Lib.hid (show k≤(lo+hi) / 2 from by
     rcases Nat.lt_or_ge ((lo+hi) / 2) k with h|h
     ·have:=LO.out _ h; rw [hp] at this; cases this
     ·exact h)
    clear hp
    go_wp2_with (go_at_fn g; refine hc.mono ?_; rintro e w' ⟨rfl,hb2⟩)
    go_roundg ((lo+hi) / 2-lo)
    case measure=>omega
    case rel=>exact⟨lo,(lo+hi) / 2,rfl,by rw [show ((lo:Int)+(hi:Int)) / 2=(((lo+hi) / 2:Nat):Int) by omega],hlk,HK.out,by omega,Nat.le_refl _,B.out.trans (hb2.mono B.out.size)⟩
  ·obtain rfl:hi=lo:=by omega
   obtain rfl:hi=k:=by omega
   go_wp2
   go_ret
   exact⟨rfl,B.out⟩
theorem el_reN {W W1:World} {v:Value} {l:List XEn} {ao:Option Addr} {n c k:Nat} {x:XEn} (h:RowN W v l) (hv:v=.slice ao n c) (hn:l.length=n) (hk:l[k]?=some x) (hb:Below W.heap.size W W1) :
  ∃ p:Addr,(∀ w,(Instr.indexAt 28 (.slice ao n c) (.int .i64 k)).run Tryz.prog w=.ok (.pointer (some p)) w) ∧
   (∀ d os,(grow (redrawn W1 d) os).cell? p=some (.int .i64 x.1))∧(∀ d os,(grow (redrawn W1 d) os).cell? ⟨p.block,p.off+1,none⟩=some (.int .i64 x.2.1)) ∧
   (∀ d os,(grow (redrawn W1 d) os).cell? ⟨p.block,p.off+2,none⟩=some (.int .i64 x.2.2.1))∧(∀ d os,(grow (redrawn W1 d) os).cell? ⟨p.block,p.off+3,none⟩=some (.int .i64 x.2.2.2.1)) ∧
   (∀ d os,(grow (redrawn W1 d) os).cell? ⟨p.block,p.off+4,none⟩=some (slv x.2.2.2.2.1))∧(∀ d os,(grow (redrawn W1 d) os).cell? ⟨p.block,p.off+5,none⟩=some (.int .i64 x.2.2.2.2.2.1)) ∧
   (∀ d os,(grow (redrawn W1 d) os).cell? ⟨p.block,p.off+6,none⟩=some (.bool x.2.2.2.2.2.2)):=by
 obtain⟨p,h1,h2⟩:=elN h hv hn hk
 obtain⟨c0,c1,c2,c3,c4,c5,c6⟩:=h2 _ hb
 exact⟨p,h1,cell_regrown c0,cell_regrown c1,cell_regrown c2,cell_regrown c3,cell_regrown c4,cell_regrown c5,cell_regrown c6⟩
theorem call_pl (args:Array Value) (w:World):(callFunc 119 args).run Tryz.prog w=.ok (.enter 119 args) w:=call_fn Tryz.func119 rfl rfl args w
theorem call_br (args:Array Value) (w:World):(callFunc 116 args).run Tryz.prog w=.ok (.enter 116 args) w:=call_fn Tryz.func116 rfl rfl args w
theorem pl1_any (i:Nat) (b1 b2 b3:Nat) (ao:Option Addr) (n ac:Nat) (l:List XEn) (t s:XID) (y:XEn) (r:Bool) (w:World) (hv:RowN w (.slice ao n ac) l) (hn:l.length=n) (hy:l[i]?=some y) (hr:(!lessP (keyN y) (t,s))=r)
  (h1:Box w b1 #[.slice ao n ac] 28) (h2:Box w b2 #[.int .i64 t.1,.int .i64 t.2] 38) (h3:Box w b3 #[.int .i64 s.1,.int .i64 s.2] 38) :
  Calls Tryz.prog 119 #[.int .i64 i,.pointer (some ⟨b1,0,none⟩),.pointer (some ⟨b2,0,none⟩),.pointer (some ⟨b3,0,none⟩)] w fun e w'=>e=.returned (.bool r)∧Below w.heap.size w w':=by
 obtain⟨p,ix,p0,p1,p2,p3,p4,p5,p6⟩:=el_reN hv rfl hn hy (Below.refl _ _)
 have a0:=cell_regrown (h1.cell 0)
 have b0:=cell_regrown (h2.cell 0)
 have b1':=cell_regrown (h2.cell 1)
 have c0:=cell_regrown (h3.cell 0)
 have c1:=cell_regrown (h3.cell 1)
 obtain⟨q,hq⟩:∃ q,lessP (keyN y) (t,s)=q:=⟨_,rfl⟩
 have C:∀ k os,Calls Tryz.prog 120 #[valN y,idv t,idv s] (grow (redrawn w k) os) fun e w''=>e=.returned (.bool q)∧∃ p:Regrown,w''=grow (redrawn w p.d) p.os:=fun k os=>Calls.regrown_of (ahead_any y t s q hq _)
 rw [hq] at hr
 have R:=Lib.hid hr
 have BN:=Lib.hid (fun dq osq=>below_regrown w dq osq)
 obtain⟨y1,y2,y3,y4,⟨yo,yn,yc⟩,y6,y7⟩:=y
 obtain⟨c,d⟩:=t
 obtain⟨g,h⟩:=s
 simp only at p0 p1 p2 p3 p4 p5 p6 b0 b1' c0 c1 C
 clear hv hn hy hr hq h1 h2 h3
 go_enter Tryz.func119,Tryz.ntmps119
 go_wp2
 refine wp_region_quiet_below (by kernel_rfl) (by kernel_rfl) ?_
 repeat (go_big_quiet_step (first | (with_reducible exact C _ _) | exact call_ahead _ _))
 refine wpQuiet_nil ?_
 intro _ hw'
 obtain⟨⟨dq,osq⟩,hw''⟩:=hw'
 subst hw''
 go_wp2
 go_ret
 exact⟨congrArg (fun b=>Ending.returned (.bool b)) R.out,BN.out _ _⟩
theorem br1_any (i:Nat) (b1 b2:Nat) (ao:Option Addr) (n ac:Nat) (l:List XEn) (t:XID) (y:XEn) (r:Bool) (w:World) (hv:RowN w (.slice ao n ac) l) (hn:l.length=n) (hy:l[i]?=some y) (hr:(!lessI (y.1,y.2.1) t)=r)
  (h1:Box w b1 #[.slice ao n ac] 28) (h2:Box w b2 #[.int .i64 t.1,.int .i64 t.2] 38) :
  Calls Tryz.prog 116 #[.int .i64 i,.pointer (some ⟨b1,0,none⟩),.pointer (some ⟨b2,0,none⟩)] w fun e w'=>e=.returned (.bool r)∧Below w.heap.size w w':=by
 obtain⟨p,ix,p0,p1,p2,p3,p4,p5,p6⟩:=el_reN hv rfl hn hy (Below.refl _ _)
 have a0:=cell_regrown (h1.cell 0)
 have b0:=cell_regrown (h2.cell 0)
 have b1':=cell_regrown (h2.cell 1)
 have C:∀ k os,Calls Tryz.prog 117 #[idv (y.1,y.2.1),idv t] (grow (redrawn w k) os) fun e w''=>e=.returned (.bool (lessI (y.1,y.2.1) t))∧∃ p:Regrown,w''=grow (redrawn w p.d) p.os:=fun k os=>Calls.regrown_of (aless_any (y.1,y.2.1) t _)
 generalize lessI (y.1,y.2.1) t=q at *
 have R:=Lib.hid hr
 have BN:=Lib.hid (fun dq osq=>below_regrown w dq osq)
 obtain⟨y1,y2,y3,y4,⟨yo,yn,yc⟩,y6,y7⟩:=y
 obtain⟨c,d⟩:=t
 simp only at p0 p1 p2 p3 p4 p5 p6 b0 b1' C
 clear hv hn hy hr h1 h2 p2 p3 p4 p5 p6
 go_enter Tryz.func116,Tryz.ntmps116
 go_wp2
 refine wp_region_quiet_below (by kernel_rfl) (by kernel_rfl) ?_
 repeat (go_big_quiet_step (first | (with_reducible exact C _ _) | exact call_less _ _))
 refine wpQuiet_nil ?_
 intro _ hw'
 obtain⟨⟨dq,osq⟩,hw''⟩:=hw'
 subst hw''
 go_wp2
 go_ret
 exact⟨congrArg (fun b=>Ending.returned (.bool b)) R.out,BN.out _ _⟩
theorem sl_len {α:Type} {E:Ek α} {W:World} {so:Option Addr} {sn sc:Nat} {l:List α} (h:Row E W (.slice so sn sc) l):l.length=sn:=by
 obtain⟨ao,ac,hv⟩:=h.len
 simp at hv
 exact hv.2.1.symm
theorem all2_key {W:World} {l:List XEn} {m:List En} (h:All2 (EnIn W) l m) {i:Nat} {y:XEn} (hy:l[i]?=some y):∃ e,m[i]?=some e∧keyN y=keyE e∧EnIn W y e:=by
 have hlt:=(List.getElem?_eq_some_iff.1 hy).1
 obtain⟨e,he⟩:∃ e,m[i]?=some e:=⟨_,List.getElem?_eq_getElem (by rw [← h.len]; exact hlt)⟩
 obtain⟨y',hy',hx⟩:=h.at i e he
 rw [hy] at hy'
 obtain rfl:=Option.some.inj hy'
 exact⟨e,he,Prod.ext hx.1 hx.2.1,hx⟩
theorem rise_less {m:List En} (hr:RiseE m) {i j:Nat} {x y:En} (hij:i<j) (hx:m[i]?=some x) (hy:m[j]?=some y):cEn x y<0:=by
 obtain⟨h1,rfl⟩:=List.getElem?_eq_some_iff.1 hx
 obtain⟨h2,rfl⟩:=List.getElem?_eq_some_iff.1 hy
 exact List.pairwise_iff_getElem.1 hr i j h1 h2 hij
theorem place_le (l:List (XID×XID)) (x:XID×XID):placeP l x≤l.length:=(List.takeWhile_sublist _).length_le
theorem place_hi {m:List En} (hr:RiseE m) (x:XID×XID) {i:Nat} {e:En} (hi:placeP (m.map keyE) x≤i) (he:m[i]?=some e):lessP (keyE e) x=false:=by
 have hlt:=(List.getElem?_eq_some_iff.1 he).1
 obtain⟨z,hz⟩:∃ z,m[placeP (m.map keyE) x]?=some z:=⟨_,List.getElem?_eq_getElem (by omega)⟩
 have h0:=place_not (m.map keyE) x (keyE z) (by rw [List.getElem?_map,hz]; rfl)
 rcases Nat.lt_or_ge (placeP (m.map keyE) x) i with h|h
 ·have h1:=rise_less hr h hz he
  cases hq:lessP (keyE e) x with
  | false=>rfl
  | true =>
   rw [← lessP_iff] at h1
   have h2:cEn z ⟨x.1,x.2,[],0,false⟩<0:=cEn_tr z e ⟨x.1,x.2,[],0,false⟩ ((lessP_iff z e).1 h1) ((lessP_iff e ⟨x.1,x.2,[],0,false⟩).1 hq)
   rw [← lessP_iff] at h2
   rw [show lessP (keyE z) x=true from h2] at h0
   cases h0
 ·have e1:i=placeP (m.map keyE) x:=by omega
  rw [e1,hz] at he
  rw [← Option.some.inj he]
  exact h0
theorem place_any (v:Sl) (l:List XEn) (m:List En) (t s:XID) (w:World) (hv:RowN w (slv v) l) (hA:All2 (EnIn w) l m) (hr:RiseE m) (hl:l.length≤1000) :
  Calls Tryz.prog 74 #[slv v,idv t,idv s] w fun e w'=>e=.returned (.tuple #[.int .i64 (placeP (m.map keyE) (t,s)),.bool (thereE m t s)])∧Below w.heap.size w w':=by
 obtain⟨so,n,sc⟩:=v
 have hn:l.length=n:=sl_len hv
 obtain⟨c,d⟩:=t
 obtain⟨g,h⟩:=s
 obtain⟨k,hk⟩:∃ k,placeP (m.map keyE) ((c,d),(g,h))=k:=⟨_,rfl⟩
 obtain⟨th,hth⟩:∃ k,thereE m (c,d) (g,h)=k:=⟨_,rfl⟩
 have hkn:k≤n:=by rw [← hk,← hn,hA.len]; simpa using place_le (m.map keyE) ((c,d),(g,h))
 rw [hk,hth]
 obtain⟨h0,X,Y,Z⟩:=three_new w #[.slice so n sc] #[.int .i64 c,.int .i64 d] #[.int .i64 g,.int .i64 h] 28 38 38
 have BB:=Lib.hid h0
 have HV:=Lib.hid (hv.on h0)
 have HA:=Lib.hid (hA.mono fun _ _ q=>q.on h0)
 have X1:=Lib.hid X
 have Y1:=Lib.hid Y
 have Z1:=Lib.hid Z
 have x0:=X.cell 0
 simp only [List.getElem?_toArray,List.getElem?_cons_zero] at x0
 have HF:=Lib.hid (show ∀ i,i<n→∀ W,Below (((w.alloc (.cells #[.slice so n sc] 28)).alloc (.cells #[.int .i64 c,.int .i64 d] 38)).alloc (.cells #[.int .i64 g,.int .i64 h] 38)).heap.size (((w.alloc (.cells #[.slice so n sc] 28)).alloc (.cells #[.int .i64 c,.int .i64 d] 38)).alloc (.cells #[.int .i64 g,.int .i64 h] 38)) W →
   Calls Tryz.prog 119 (#[.int .i64 i]++#[.pointer (some ⟨w.heap.size,0,none⟩),.pointer (some ⟨w.heap.size+1,0,none⟩),.pointer (some ⟨w.heap.size+1+1,0,none⟩)]) W fun e w'=>e=.returned (.bool ((fun i=>match l[i]? with | some y=>!lessP (keyN y) ((c,d),(g,h)) | none=>true) i))∧Below W.heap.size W w' from fun i hi W hb=>by
  obtain⟨y,hy⟩:∃ y,l[i]?=some y:=⟨_,List.getElem?_eq_getElem (by omega)⟩
  refine pl1_any i _ _ _ so n sc l (c,d) (g,h) y _ W (HV.out.on hb) hn hy ?_ (X1.out.on hb) (Y1.out.on hb) (Z1.out.on hb)
  simp only [hy])
 have HLO:=Lib.hid (show ∀ i,i<k→(fun i=>match l[i]? with | some y=>!lessP (keyN y) ((c,d),(g,h)) | none=>true) i=false from fun i hi=>by
  obtain⟨y,hy⟩:∃ y,l[i]?=some y:=⟨_,List.getElem?_eq_getElem (by omega)⟩
  obtain⟨e,he,hke,_⟩:=all2_key HA.out hy
  have h1:=take_less (m.map keyE) ((c,d),(g,h)) i (keyE e) (by rw [hk]; exact hi) (by rw [List.getElem?_map,he]; rfl)
  simp only [hy,hke,h1]
  rfl)
 have HHI:=Lib.hid (show ∀ i,k≤i→i<n→(fun i=>match l[i]? with | some y=>!lessP (keyN y) ((c,d),(g,h)) | none=>true) i=true from fun i hi hi2=>by
  obtain⟨y,hy⟩:∃ y,l[i]?=some y:=⟨_,List.getElem?_eq_getElem (by omega)⟩
  obtain⟨e,he,hke,_⟩:=all2_key HA.out hy
  have h1:=Sb.place_hi hr ((c,d),(g,h)) (by rw [hk]; exact hi) he
  simp only [hy,hke,h1]
  rfl)
 have HK:=Lib.hid hk
 have HT:=Lib.hid hth
 have HN:=Lib.hid hn
 have ln:n≤1000:=by omega
 clear hv hA h0 X Y Z hk hth hl hn hr
 go_enter Tryz.func74,Tryz.ntmps74
 go_wp2_with fail
 generalize ((w.alloc (.cells #[.slice so n sc] 28)).alloc (.cells #[.int .i64 c,.int .i64 d] 38)).alloc (.cells #[.int .i64 g,.int .i64 h] 38)=W at *
 refine (search_any 119 #[.pointer (some ⟨w.heap.size,0,none⟩),.pointer (some ⟨w.heap.size+1,0,none⟩),.pointer (some ⟨w.heap.size+1+1,0,none⟩)] call_pl n k _ W (by omega) HF.out hkn HLO.out HHI.out).mono ?_
 rintro e1 w1 ⟨rfl,hb⟩
 have BN:=Lib.hid (fun dq osq=>(BB.out.trans (hb.mono BB.out.size)).trans ((below_regrown w1 dq osq).mono (BB.out.trans (hb.mono BB.out.size)).size))
 have a0:=cell_regrown (show w1.cell? ⟨w.heap.size,0,none⟩=some (.slice so n sc) from (X1.out.on hb).cell 0)
 have b0:=cell_regrown (show w1.cell? ⟨w.heap.size+1,0,none⟩=some (.int .i64 c) from (Y1.out.on hb).cell 0)
 have b1:=cell_regrown (show w1.cell? ⟨w.heap.size+1,1,none⟩=some (.int .i64 d) from (Y1.out.on hb).cell 1)
 have c0:=cell_regrown (show w1.cell? ⟨w.heap.size+1+1,0,none⟩=some (.int .i64 g) from (Z1.out.on hb).cell 0)
 have c1:=cell_regrown (show w1.cell? ⟨w.heap.size+1+1,1,none⟩=some (.int .i64 h) from (Z1.out.on hb).cell 1)
 clear x0 HF HLO HHI
 by_cases hkl:k<n
 ·obtain⟨y,hy⟩:∃ y,l[k]?=some y:=⟨_,List.getElem?_eq_getElem (by rw [HN.out]; exact hkl)⟩
  obtain⟨p,ix,p0,p1,p2,p3,p4,p5,p6⟩:=el_reN HV.out rfl HN.out hy hb
  have TH:=Lib.hid (show th=decide (keyN y=((c,d),(g,h))) from by
   obtain⟨e,he,hke,_⟩:=all2_key HA.out hy
   rw [← HT.out,thereE,HK.out,he,hke])
  have g4:decide ((k:Int)<(n:Int))=true:=by simp; omega
  obtain⟨y1,y2,y3,y4,⟨yo,yn,yc⟩,y6,y7⟩:=y
  simp only at p0 p1 p2 p3
  clear p4 p5 p6 hb hy
  obtain⟨r1,hr1⟩:∃ r,(y1 == c && y2 == d)=r:=⟨_,rfl⟩
  obtain⟨r2,hr2⟩:∃ r,(y3 == g && y4 == h)=r:=⟨_,rfl⟩
  have e1:=eqId y1 y2 c d r1 hr1
  have e2:=eqId y3 y4 g h r2 hr2
  have R:=Lib.hid (show th=(r1 && r2) from by
   rw [TH.out,← hr1,← hr2,Bool.eq_iff_iff]
   simp only [decide_eq_true_eq,Bool.and_eq_true,beq_iff_eq,Prod.mk.injEq])
  clear hr1 hr2 TH HT
  cases r1 <;> cases r2
  all_goals
   go_wp2
   refine wp_region_quiet_below (by kernel_rfl) (by kernel_rfl) ?_
   repeat (go_big_quiet_step (fail))
   refine wpQuiet_nil ?_
   intro _ hw'
   obtain⟨⟨dq,osq⟩,hw''⟩:=hw'
   subst hw''
   go_wp2
   go_ret2
   exact⟨by rw [R.out]; rfl,BN.out _ _⟩
 ·have TH:=Lib.hid (show th=false from by
   rw [← HT.out,thereE,HK.out,List.getElem?_eq_none (by rw [← HA.out.len,HN.out]; omega)])
  have g4:decide ((k:Int)<(n:Int))=false:=by simp; omega
  clear hb HT
  go_wp2
  refine wp_region_quiet_below (by kernel_rfl) (by kernel_rfl) ?_
  repeat (go_big_quiet_step (fail))
  refine wpQuiet_nil ?_
  intro _ hw'
  obtain⟨⟨dq,osq⟩,hw''⟩:=hw'
  subst hw''
  go_wp2
  go_ret2
  exact⟨by rw [TH.out]; rfl,BN.out _ _⟩
def cutV (v:Sl) (f k:Nat):Sl:=match v with
 | (some a,_,c)=>(some (if c=f then a else a.add (f * 7)),k,c-f)
 | (none,_,_)=>(none,0,0)
theorem tw_lt {α:Type} (p:α→Bool):∀ (l:List α) (j:Nat) (y:α),j<(l.takeWhile p).length→l[j]?=some y→p y=true
 | [],_,_,_,h=>by simp at h
 | a::l,j,y,hj,h=>by
  by_cases ha:p a=true
  ·rw [List.takeWhile_cons,if_pos ha,List.length_cons] at hj
   cases j with
   | zero=>rw [← Option.some.inj (show some a=some y from h)]; exact ha
   | succ j=>exact tw_lt p l j y (by omega) (by simpa using h)
  ·rw [List.takeWhile_cons,if_neg ha] at hj
   simp at hj
theorem tw_end {α:Type} (p:α→Bool):∀ (l:List α) (y:α),l[(l.takeWhile p).length]?=some y→p y=false
 | [],_,h=>by simp at h
 | a::l,y,h=>by
  by_cases ha:p a=true
  ·rw [List.takeWhile_cons,if_pos ha,List.length_cons] at h
   exact tw_end p l y (by simpa using h)
  ·rw [List.takeWhile_cons,if_neg ha] at h
   rw [← Option.some.inj (show some a=some y from h)]
   simpa using ha
theorem slice_cut (a:Addr) (f e len cap:Nat) (h:f≤e) (h6:e≤cap) (w:World):(Instr.sliceAt 28 (.slice (some a) len cap) (some (.int .i64 f)) (some (.int .i64 e)) none).run Tryz.prog w=.ok (slv (cutV (some a,len,cap) f (e-f))) w:=by
 have h1:(f:Int)≤(e:Int):=by omega
 have h3:(e:Int)≤cap:=by omega
 obtain⟨i,i1,i2,i3,i4⟩:=okN.info
 have i1':Tryz.prog.info? 43=some i:=i1
 have hu':Tryz.prog.underlying 28=some (.slice 43):=okN.hu
 have i3':i.size=7:=i3
 by_cases he:cap=f
 ·subst he
  obtain rfl:e=cap:=by omega
  simp [go_sem,hu',sizeOf,typeInfo,i1',i3',cutV]
 ·simp [go_sem,hu',sizeOf,typeInfo,i1',i3',cutV,he,h,h6]
theorem row_cut {W:World} {v:Sl} {l:List XEn} (h:RowN W (slv v) l) (f k:Nat) (hk:f+k≤l.length) :
  (∀ w,(Instr.sliceAt 28 (slv v) (some (.int .i64 f)) (some (.int .i64 ((f+k:Nat):Int))) none).run Tryz.prog w=.ok (slv (cutV v f k)) w)∧RowN W (slv (cutV v f k)) ((l.drop f).take k):=by
 obtain⟨so,sn,sc⟩:=v
 rcases h with⟨rfl,hv⟩|⟨a,cap,hv,h2,h3,h4⟩
 ·obtain⟨rfl,rfl,rfl⟩:so=none∧sn=0∧sc=0:=by simpa using hv
  obtain⟨rfl,rfl⟩:f=0∧k=0:=by simp at hk; omega
  refine⟨fun w=>?_,Or.inl ⟨rfl,rfl⟩⟩
  obtain⟨i,i1,i2,i3,i4⟩:=okN.info
  have i1':Tryz.prog.info? 43=some i:=i1
  have hu':Tryz.prog.underlying 28=some (.slice 43):=okN.hu
  simp [go_sem,hu',sizeOf,typeInfo,i1',cutV]
 ·obtain⟨rfl,rfl,rfl⟩:so=some a∧sn=l.length∧sc=cap:=by simpa using hv
  refine⟨fun w=>by have h:=slice_cut a f (f+k) l.length sc (Nat.le_add_right _ _) (Nat.le_trans hk h2) w; rwa [Nat.add_sub_cancel_left] at h,?_⟩
  refine Or.inr ⟨(if sc=f then a else a.add (f * 7)),sc-f,?_,?_,by omega,fun j u hj=>?_⟩
  ·have e:((l.drop f).take k).length=k:=by rw [List.length_take,List.length_drop]; omega
   rw [e]
   rfl
  ·rw [List.length_take,List.length_drop]; omega
  ·have hlt:=(List.getElem?_eq_some_iff.1 hj).1
   have hlen:(flat EN ((l.drop f).take k)).length=k * 7:=by
    rw [flat_length okN,List.length_take,List.length_drop]
    show _ * 7=_
    rw [show min k (l.length-f)=k by omega]
   rw [hlen] at hlt
   rw [if_neg (by omega),add_add]
   refine h4 _ u ?_
   have e1:flat EN l=flat EN (l.take f)++(flat EN ((l.drop f).take k)++flat EN ((l.drop f).drop k)):=by
    rw [← flat_append,List.take_append_drop,← flat_append,List.take_append_drop]
   have e2:(flat EN (l.take f)).length=f * 7:=by
    rw [flat_length okN,List.length_take]
    show _ * 7=_
    rw [show min f l.length=f by omega]
   rw [e1,List.getElem?_append_right (by rw [e2]; omega),e2,show f * 7+j-f * 7=j by omega,List.getElem?_append_left (by rw [hlen]; exact hlt)]
   exact hj
theorem fromT_len (m:List En) (t:XID):fromT m t+(brE m t).length≤m.length:=by
 have h1:(brE m t).length≤(m.drop (fromT m t)).length:=(List.takeWhile_sublist _).length_le
 have h2:fromT m t≤m.length:=(List.takeWhile_sublist _).length_le
 rw [List.length_drop] at h1
 omega
theorem branch_any (v:Sl) (l:List XEn) (m:List En) (t:XID) (w:World) (hv:RowN w (slv v) l) (hA:All2 (EnIn w) l m) (hr:RiseE m) (hl:l.length≤1000) :
  Calls Tryz.prog 72 #[slv v,idv t] w fun e w'=>e=.returned (slv (cutV v (fromT m t) (brE m t).length))∧Below w.heap.size w w':=by
 have hfk:=fromT_len m t
 have hML:l.length=m.length:=hA.len
 obtain⟨f,hf⟩:∃ f,fromT m t=f:=⟨_,rfl⟩
 obtain⟨k,hk⟩:∃ k,(brE m t).length=k:=⟨_,rfl⟩
 rw [hf,hk] at hfk ⊢
 have RC:=Lib.hid ((row_cut hv f k (by omega)).1)
 obtain⟨so,n,sc⟩:=v
 generalize cutV (so,n,sc) f k=z at RC ⊢
 obtain⟨z1,z2,z3⟩:=z
 have hn:l.length=n:=sl_len hv
 obtain⟨c,d⟩:=t
 obtain⟨h0,X,Y⟩:=two_new w #[.slice so n sc] #[.int .i64 c,.int .i64 d] 28 38
 have BB:=Lib.hid h0
 have HV:=Lib.hid (hv.on h0)
 have HA:=Lib.hid (hA.mono fun _ _ q=>q.on h0)
 have X1:=Lib.hid X
 have Y1:=Lib.hid Y
 have x0:=X.cell 0
 simp only [List.getElem?_toArray,List.getElem?_cons_zero] at x0
 have FL:∀ (i:Nat) (e:En),i<f→m[i]?=some e→lessI e.tree (c,d)=true:=fun i e hi he=>tw_lt (fun e:En=>lessI e.tree (c,d)) m i e (by unfold fromT at hf; omega) he
 have FH:∀ (i:Nat) (e:En),f≤i→m[i]?=some e→lessI e.tree (c,d)=false:=fun i e hi he=>by
  refine lo_out (c,d) hr e ?_
  rw [← drop_len]
  unfold fromT at hf
  rw [hf]
  exact List.mem_of_getElem? (show (m.drop f)[i-f]?=some e by rw [List.getElem?_drop,show f+(i-f)=i by omega]; exact he)
 have BL:=Lib.hid (show ∀ (i:Nat) (e:En),i<k→m[f+i]?=some e→e.tree=(c,d) from fun i e hi he=>by
  have:=tw_lt (fun e:En=>decide (e.tree=(c,d))) (m.drop f) i e (by unfold brE at hk; rw [hf] at hk; omega) (by rw [List.getElem?_drop]; exact he)
  exact of_decide_eq_true this)
 have BH:=Lib.hid (show ∀ (e:En),m[f+k]?=some e→e.tree≠(c,d) from fun e he=>by
  have:=tw_end (fun e:En=>decide (e.tree=(c,d))) (m.drop f) e (by unfold brE at hk; rw [hf] at hk; rw [hk,List.getElem?_drop]; exact he)
  exact of_decide_eq_false this)
 have HF:=Lib.hid (show ∀ i,i<n→∀ W,Below ((w.alloc (.cells #[.slice so n sc] 28)).alloc (.cells #[.int .i64 c,.int .i64 d] 38)).heap.size ((w.alloc (.cells #[.slice so n sc] 28)).alloc (.cells #[.int .i64 c,.int .i64 d] 38)) W →
   Calls Tryz.prog 116 (#[.int .i64 i]++#[.pointer (some ⟨w.heap.size,0,none⟩),.pointer (some ⟨w.heap.size+1,0,none⟩)]) W fun e w'=>e=.returned (.bool ((fun i=>match l[i]? with | some y=>!lessI (y.1,y.2.1) (c,d) | none=>true) i))∧Below W.heap.size W w' from fun i hi W hb=>by
  obtain⟨y,hy⟩:∃ y,l[i]?=some y:=⟨_,List.getElem?_eq_getElem (by omega)⟩
  refine br1_any i _ _ so n sc l (c,d) y _ W (HV.out.on hb) hn hy ?_ (X1.out.on hb) (Y1.out.on hb)
  simp only [hy])
 have HLO:=Lib.hid (show ∀ i,i<f→(fun i=>match l[i]? with | some y=>!lessI (y.1,y.2.1) (c,d) | none=>true) i=false from fun i hi=>by
  obtain⟨y,hy⟩:∃ y,l[i]?=some y:=⟨_,List.getElem?_eq_getElem (by omega)⟩
  obtain⟨e,he,hke,hx⟩:=all2_key HA.out hy
  have h1:=FL i e hi he
  rw [← hx.1] at h1
  simp only [hy,h1]
  rfl)
 have HHI:=Lib.hid (show ∀ i,f≤i→i<n→(fun i=>match l[i]? with | some y=>!lessI (y.1,y.2.1) (c,d) | none=>true) i=true from fun i hi hi2=>by
  obtain⟨y,hy⟩:∃ y,l[i]?=some y:=⟨_,List.getElem?_eq_getElem (by omega)⟩
  obtain⟨e,he,hke,hx⟩:=all2_key HA.out hy
  have h1:=FH i e hi he
  rw [← hx.1] at h1
  simp only [hy,h1]
  rfl)
 have HN:=Lib.hid hn
 have ln:n≤1000:=by omega
 have hfk2:f+k≤n:=by omega
 clear hv hA h0 X Y hk hf hl hn hr hfk hML FL FH
 go_enter Tryz.func72,Tryz.ntmps72
 go_wp2_with fail
 generalize (w.alloc (.cells #[.slice so n sc] 28)).alloc (.cells #[.int .i64 c,.int .i64 d] 38)=W at *
 refine (search_any 116 #[.pointer (some ⟨w.heap.size,0,none⟩),.pointer (some ⟨w.heap.size+1,0,none⟩)] call_br n f _ W (by omega) HF.out (by omega) HLO.out HHI.out).mono ?_
 rintro e1 w1 ⟨rfl,hb⟩
 have B1:=Lib.hid hb
 clear x0 HF HLO HHI hb
 go_wp2
 go_loopw [6] (fun i wr=>∃ j:Nat,j≤k∧i=.int .i64 ((f+j:Nat):Int)∧Below W.heap.size W wr) (fun i _=>f+k-(intOf i).toNat)
 case atStart=>exact⟨0,Nat.zero_le _,by simp,B1.out⟩
 case round =>
  obtain⟨j,hj,rfl,hbe⟩:=hrel
  have BE:=Lib.hid hbe
  have a0:=cell_regrown (show wr.cell? ⟨w.heap.size,0,none⟩=some (.slice so n sc) from (X1.out.on hbe).cell 0)
  have b0:=cell_regrown (show wr.cell? ⟨w.heap.size+1,0,none⟩=some (.int .i64 c) from (Y1.out.on hbe).cell 0)
  have b1:=cell_regrown (show wr.cell? ⟨w.heap.size+1,1,none⟩=some (.int .i64 d) from (Y1.out.on hbe).cell 1)
  have BN:=Lib.hid (fun dq osq=>BE.out.trans ((below_regrown wr dq osq).mono BE.out.size))
  clear hbe
  by_cases hjk:j<k
  ·obtain⟨y,hy⟩:∃ y,l[f+j]?=some y:=⟨_,List.getElem?_eq_getElem (by rw [HN.out]; omega)⟩
   obtain⟨p,ix,p0,p1,p2,p3,p4,p5,p6⟩:=el_reN HV.out rfl HN.out hy BE.out
   obtain⟨e,he,_,hx⟩:=all2_key HA.out hy
   have ht:(y.1,y.2.1)=(c,d):=hx.1.trans (BL.out j e hjk he)
   have hjn:f+j<n:=by omega
   have g4:decide (((f+j:Nat):Int)<(n:Int))=true:=by simp; omega
   have hw3:IntKind.i64.wrap (((f+j:Nat):Int)+1)=((f+(j+1):Nat):Int):=by rw [IntWalk.i64_in _ (by omega)]; omega
   obtain⟨y1,y2,y3,y4,⟨yo,yn,yc⟩,y6,y7⟩:=y
   obtain⟨rfl,rfl⟩:y1=c∧y2=d:=by simpa using ht
   simp only at p0 p1
   have e1:=eqId y1 y2 y1 y2 true (by simp)
   clear p2 p3 p4 p5 p6 hy he hx ht
   generalize hq:f+j=q at *
   have HQ:=Lib.hid hq
   clear hq
   go_wp2
   refine wp_region_quiet_below (by kernel_rfl) (by kernel_rfl) ?_
   repeat (go_big_quiet_step (fail))
   refine wpQuiet_nil ?_
   intro _ hw'
   obtain⟨⟨dq,osq⟩,hw''⟩:=hw'
   subst hw''
   go_wp2
   go_roundw
   case rel=>exact⟨j+1,by omega,by rfl,BN.out _ _⟩
   case measure =>
    have hq:=HQ.out
    simp [intOf]
    omega
  ·obtain rfl:j=k:=by omega
   have RC2:=RC.out
   by_cases hjn:f+j<n
   ·obtain⟨y,hy⟩:∃ y,l[f+j]?=some y:=⟨_,List.getElem?_eq_getElem (by rw [HN.out]; omega)⟩
    obtain⟨p,ix,p0,p1,p2,p3,p4,p5,p6⟩:=el_reN HV.out rfl HN.out hy BE.out
    obtain⟨e,he,_,hx⟩:=all2_key HA.out hy
    have ht:(y.1,y.2.1)≠(c,d):=fun q=>BH.out e he (hx.1.symm.trans q)
    have g4:decide (((f+j:Nat):Int)<(n:Int))=true:=by simp; omega
    obtain⟨y1,y2,y3,y4,⟨yo,yn,yc⟩,y6,y7⟩:=y
    simp only at p0 p1
    have e1:=eqId y1 y2 c d false (Bool.eq_false_iff.2 fun h=>ht (by simp at h; rw [h.1,h.2]))
    clear p2 p3 p4 p5 p6 hy he hx ht
    generalize f+j=q at *
    go_wp2
    refine wp_region_quiet_below (by kernel_rfl) (by kernel_rfl) ?_
    repeat (go_big_quiet_step (fail))
    refine wpQuiet_nil ?_
    intro _ hw'
    obtain⟨⟨dq,osq⟩,hw''⟩:=hw'
    subst hw''
    have a0:=a0 dq osq
    go_wp2
    go_ret
    exact⟨rfl,BB.out.trans ((BN.out _ _).mono BB.out.size)⟩
   ·have g4:decide (((f+j:Nat):Int)<(n:Int))=false:=by simp; omega
    generalize f+j=q at *
    go_wp2
    refine wp_region_quiet_below (by kernel_rfl) (by kernel_rfl) ?_
    repeat (go_big_quiet_step (fail))
    refine wpQuiet_nil ?_
    intro _ hw'
    obtain⟨⟨dq,osq⟩,hw''⟩:=hw'
    subst hw''
    have a0:=a0 dq osq
    go_wp2
    go_ret
    exact⟨rfl,BB.out.trans ((BN.out _ _).mono BB.out.size)⟩
end Go.Proofs.YtncogjpmboglhaaGreat.Sb
namespace Go.Proofs.YtncogjpmboglhaaGreat.Sb
open Go.RowKit Go.Sort Rw YtncogjpmboglhaaGreat.Nm Pr Bk Av Rl
theorem covers_d (av_ bv:Value) (p q:List C5) (w:World) (ha:RowC w av_ p) (hb:RowC w bv q) (hp:PredOk p) (hq:PredOk q) :
  Calls Tryz.prog 114 #[av_,bv] w fun e w'=>e=.returned (.bool (coversC p q))∧Below w.heap.size w w':=by
 obtain⟨a,na,rfl⟩:=hp
 obtain⟨b,nb,rfl⟩:=hq
 unfold coversC
 rw [unR_map,unR_map]
 exact covers_any av_ bv a b w ha hb na nb
theorem any_at {α:Type} (f:α→Bool) {l:List α} (h:∀ (j:Nat) (y:α),j<l.length→l[j]?=some y→f y=false):l.any f=false:=by
 rw [List.any_eq_false]
 intro e he
 obtain⟨j,hj,hje⟩:=List.getElem_of_mem he
 simpa using h j e hj (by rw [List.getElem?_eq_getElem hj,hje])
theorem any_of {α:Type} (f:α→Bool) {l:List α} {k:Nat} {y:α} (h:l[k]?=some y) (hf:f y=true):l.any f=true:=by
 rw [List.any_eq_true]
 exact⟨y,List.mem_of_getElem? h,hf⟩
abbrev cE (p:List C5) (e:En):Bool:=e.up && coversC e.p p
theorem covered_any (v:Sl) (pv:Value) (l:List XEn) (m:List En) (p':List C5) (w:World) (hs:RowN w (slv v) l) (hu:All2 (EnIn w) l m) (hp:RowC w pv p') (hok:∀ e∈m,PredOk e.p) (hop:PredOk p') :
  Calls Tryz.prog 71 #[slv v,pv] w fun e w'=>e=.returned (.bool (covB m p'))∧Below w.heap.size w w':=by
 have HU:=Lib.hid hu
 have HP:=Lib.hid hp
 have OK:=Lib.hid hok
 have OP:=Lib.hid hop
 obtain⟨pa,pc,rfl⟩:=hp.len
 generalize p'.length=pn at *
 obtain⟨so,n,sc⟩:=v
 have hn:=sl_len hs
 have HS:=Lib.hid hs
 have lm:=hs.most
 unfold maxLen at lm
 rw [hn] at lm
 have HN:=Lib.hid hn
 clear hu hp hok hop hs hn
 go_enter Tryz.func71,Tryz.ntmps71
 go_wp2
 go_loopw [9] (fun i wr=>∃ k:Nat,k≤n∧i=.int .i64 k∧Below w.heap.size w wr∧∀ (j:Nat) (y:En),j<k→m[j]?=some y→cE p' y=false) (fun i _=>n-(intOf i).toNat)
 case atStart=>exact⟨0,Nat.zero_le _,rfl,Below.refl _ _,fun j y h=>by omega⟩
 case round =>
  obtain⟨k,hk,rfl,hbe,hall⟩:=hrel
  have BE:=Lib.hid hbe
  have AL:=Lib.hid hall
  clear hbe hall
  by_cases hlt:k<n
  ·obtain⟨y,hy⟩:∃ y,l[k]?=some y:=⟨_,List.getElem?_eq_getElem (by rw [HN.out]; exact hlt)⟩
   obtain⟨q,ix,px⟩:=elN HS.out rfl HN.out hy
   obtain⟨p0,p1,p2,p3,p4,p5,p6⟩:=px wr BE.out
   obtain⟨e,he,_,hin⟩:=all2_key HU.out hy
   obtain⟨y1,y2,y3,y4,⟨yo,yn,yc⟩,y6,y7⟩:=y
   simp only at p0 p1 p2 p3 p4 p5 p6
   have NB:=Lib.hid (newB wr (.cells #[.int .i64 y1,.int .i64 y2,.int .i64 y3,.int .i64 y4,.slice yo yn yc,.int .i64 y6,.bool y7] 43))
   have hw3:IntKind.i64.wrap ((k:Int)+1)=(k:Int)+1:=IntWalk.i64_in _ (by omega)
   obtain⟨t,ht⟩:∃ r,coversC e.p p'=r:=⟨_,rfl⟩
   have HV:=Lib.hid (show cE p' e=(y7 && t) by unfold cE; rw [← hin.2.2.2.1,ht])
   have HE:=Lib.hid he
   have BF:=Lib.hid (BE.out.trans (NB.out.mono BE.out.size))
   have CV:=Lib.hid (covers_d (.slice yo yn yc) (.slice pa pn pc) e.p p' _ (hin.2.2.2.2.on BF.out) (HP.out.on BF.out) (OK.out _ (List.mem_of_getElem? he)) OP.out)
   rw [ht] at CV
   clear px hy ht he hin
   cases y7
   ·clear CV
    go_wp2
    go_roundw
    case rel=>exact⟨k+1,by omega,by go_num,BF.out,fun j y' hj h1=>by
     rcases Nat.lt_or_ge j k with h3|h3
     ·exact AL.out j y' h3 h1
     ·obtain rfl:j=k:=by omega
      have e1:=HE.out
      rw [h1] at e1
      rw [Option.some.inj e1]
      exact HV.out.trans (by simp)⟩
    case measure=>simp [intOf]; omega
   ·go_wp2_with fail
    refine CV.out.mono ?_
    rintro e3 w3 ⟨rfl,hb⟩
    have BG:=Lib.hid (BF.out.trans (hb.mono BF.out.size))
    clear CV hb p0 p1 p2 p3 p4 p5 p6 ix
    cases t
    ·go_wp2
     go_roundw
     case rel=>exact⟨k+1,by omega,by go_num,BG.out,fun j y' hj h1=>by
      rcases Nat.lt_or_ge j k with h3|h3
      ·exact AL.out j y' h3 h1
      ·obtain rfl:j=k:=by omega
       have e1:=HE.out
       rw [h1] at e1
       rw [Option.some.inj e1]
       exact HV.out.trans (by simp)⟩
     case measure=>simp [intOf]; omega
    ·have hd:covB m p'=true:=any_of (cE p') HE.out (HV.out.trans (by simp))
     go_wp2
     go_ret
     exact⟨by rw [hd]; rfl,BG.out⟩
  ·obtain rfl:k=n:=by omega
   have hd:covB m p'=false:=any_at (cE p') fun j y hj h=>AL.out j y (by rw [← HN.out,HU.out.len]; exact hj) h
   go_wp2
   go_ret
   exact⟨by rw [hd]; rfl,BE.out⟩
theorem all_at {α:Type} (f:α→Bool) {l:List α} (h:∀ (j:Nat) (y:α),j<l.length→l[j]?=some y→f y=true):l.all f=true:=by
 rw [List.all_eq_true]
 intro e he
 obtain⟨j,hj,hje⟩:=List.getElem_of_mem he
 exact h j e hj (by rw [List.getElem?_eq_getElem hj,hje])
theorem all_of {α:Type} (f:α→Bool) {l:List α} {k:Nat} {y:α} (h:l[k]?=some y) (hf:f y=false):l.all f=false:=by
 rw [List.all_eq_false]
 exact⟨y,List.mem_of_getElem? h,by rw [hf]; simp⟩
abbrev tE (r:List En) (e:En):Bool:=e.up || covB r e.p
theorem tight_any (v:Sl) (l:List XEn) (m:List En) (w:World) (hs:RowN w (slv v) l) (hu:All2 (EnIn w) l m) (hok:∀ e∈m,PredOk e.p) :
  Calls Tryz.prog 93 #[slv v] w fun e w'=>e=.returned (.bool (tightR m))∧Below w.heap.size w w':=by
 have HU:=Lib.hid hu
 have OK:=Lib.hid hok
 have HS:=Lib.hid hs
 obtain⟨so,n,sc⟩:=v
 have hn:=sl_len hs
 have lm:=hs.most
 unfold maxLen at lm
 rw [hn] at lm
 have HN:=Lib.hid hn
 clear hu hok hs hn
 go_enter Tryz.func93,Tryz.ntmps93
 go_wp2
 go_loopw [7] (fun i wr=>∃ k:Nat,k≤n∧i=.int .i64 k∧Below w.heap.size w wr∧∀ (j:Nat) (y:En),j<k→m[j]?=some y→tE m y=true) (fun i _=>n-(intOf i).toNat)
 case atStart=>exact⟨0,Nat.zero_le _,rfl,Below.refl _ _,fun j y h=>by omega⟩
 case round =>
  obtain⟨k,hk,rfl,hbe,hall⟩:=hrel
  have BE:=Lib.hid hbe
  have AL:=Lib.hid hall
  clear hbe hall
  by_cases hlt:k<n
  ·obtain⟨y,hy⟩:∃ y,l[k]?=some y:=⟨_,List.getElem?_eq_getElem (by rw [HN.out]; exact hlt)⟩
   obtain⟨q,ix,px⟩:=elN HS.out rfl HN.out hy
   obtain⟨p0,p1,p2,p3,p4,p5,p6⟩:=px wr BE.out
   obtain⟨e,he,_,hin⟩:=all2_key HU.out hy
   obtain⟨y1,y2,y3,y4,⟨yo,yn,yc⟩,y6,y7⟩:=y
   simp only at p0 p1 p2 p3 p4 p5 p6
   have NB:=Lib.hid (newB wr (.cells #[.int .i64 y1,.int .i64 y2,.int .i64 y3,.int .i64 y4,.slice yo yn yc,.int .i64 y6,.bool y7] 43))
   have hw3:IntKind.i64.wrap ((k:Int)+1)=(k:Int)+1:=IntWalk.i64_in _ (by omega)
   obtain⟨t,ht⟩:∃ r,covB m e.p=r:=⟨_,rfl⟩
   have HV:=Lib.hid (show tE m e=(y7 || t) by unfold tE; rw [← hin.2.2.2.1,ht])
   have HE:=Lib.hid he
   have BF:=Lib.hid (BE.out.trans (NB.out.mono BE.out.size))
   have CV:=Lib.hid (covered_any (so,n,sc) (.slice yo yn yc) l m e.p _ (HS.out.on BF.out) (HU.out.mono fun _ _ q=>q.on BF.out) (hin.2.2.2.2.on BF.out) OK.out (OK.out _ (List.mem_of_getElem? he)))
   rw [ht] at CV
   clear px hy ht he hin
   cases y7
   ·go_wp2_with fail
    refine CV.out.mono ?_
    rintro e3 w3 ⟨rfl,hb⟩
    have BG:=Lib.hid (BF.out.trans (hb.mono BF.out.size))
    clear CV hb p0 p1 p2 p3 p4 p5 p6 ix
    cases t
    ·have hd:tightR m=false:=all_of (tE m) HE.out (HV.out.trans (by simp))
     go_wp2
     go_ret
     exact⟨by rw [hd]; rfl,BG.out⟩
    ·go_wp2
     go_roundw
     case rel=>exact⟨k+1,by omega,by go_num,BG.out,fun j y' hj h1=>by
      rcases Nat.lt_or_ge j k with h3|h3
      ·exact AL.out j y' h3 h1
      ·obtain rfl:j=k:=by omega
       have e1:=HE.out
       rw [h1] at e1
       rw [Option.some.inj e1]
       exact HV.out.trans (by simp)⟩
     case measure=>simp [intOf]; omega
   ·clear CV
    go_wp2
    go_roundw
    case rel=>exact⟨k+1,by omega,by go_num,BF.out,fun j y' hj h1=>by
     rcases Nat.lt_or_ge j k with h3|h3
     ·exact AL.out j y' h3 h1
     ·obtain rfl:j=k:=by omega
      have e1:=HE.out
      rw [h1] at e1
      rw [Option.some.inj e1]
      exact HV.out.trans (by simp)⟩
    case measure=>simp [intOf]; omega
  ·obtain rfl:k=n:=by omega
   have hd:tightR m=true:=all_at (tE m) fun j y hj h=>AL.out j y (by rw [← HN.out,HU.out.len]; exact hj) h
   go_wp2
   go_ret
   exact⟨by rw [hd]; rfl,BE.out⟩
end Go.Proofs.YtncogjpmboglhaaGreat.Sb
