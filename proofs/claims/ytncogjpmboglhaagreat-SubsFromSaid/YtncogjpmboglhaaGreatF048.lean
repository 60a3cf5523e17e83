/-
  A broker that the st. Conditions as told.
-/
import Derived.Test.YtncogjpmboglhaaGreatF032
import Derived.Test.YtncogjpmboglhaaGreatF046
import Derived.Test.YtncogjpmboglhaaGreatF047
import Derived.Test.YtncogjpmboglhaaGreatF031
set_option maxRecDepth 100000
set_option maxHeartbeats 64000000
namespace Go.Proofs.YtncogjpmboglhaaGreat.Av
open Go.RowKit Go.Sort Rw YtncogjpmboglhaaGreat.Nm Pr Bk
theorem lessP_cEn (x y:En):lessP (keyE x) (keyE y)=true↔cEn x y<0:=by
 rw [cEn_neg]
 unfold lessP keyE
 simp only [Bool.or_eq_true,Bool.and_eq_true,eqI_iff]
theorem cEn_total (x y:En) (h:keyE x≠keyE y):cEn x y<0∨cEn y x<0:=by
 rw [cEn_neg,cEn_neg]
 rcases lessI_total x.tree y.tree with q|q|q
 ·exact Or.inl (Or.inl q)
 ·rcases lessI_total x.sub y.sub with r|r|r
  ·exact Or.inl (Or.inr ⟨q,r⟩)
  ·exact absurd (Prod.ext q r) h
  ·exact Or.inr (Or.inr ⟨q.symm,r⟩)
 ·exact Or.inr (Or.inl q)
theorem placeP_lo:∀ (l:List En) (x:En),∀ y∈l.take (placeP (l.map keyE) (keyE x)),cEn y x<0
 | [],_,y,h=>by simp at h
 | a::l,x,y,h=>by
  unfold placeP at h
  by_cases ha:lessP (keyE a) (keyE x)=true
  ·simp only [List.map_cons,List.takeWhile_cons,ha,if_true,List.length_cons,List.take_succ_cons,List.mem_cons] at h
   rcases h with rfl|h
   ·exact (lessP_cEn _ _).1 ha
   ·exact placeP_lo l x y h
  ·simp [ha] at h
theorem placeP_hi:∀ {l:List En} (_:l.Pairwise fun x y=>cEn x y<0) (x:En) (_:∀ y∈l,keyE y≠keyE x),∀ y∈l.drop (placeP (l.map keyE) (keyE x)),cEn x y<0
 | [],_,_,_,y,h=>by simp at h
 | a::l,hr,x,hn,y,h=>by
  unfold placeP at h
  have hr':=List.pairwise_cons.1 hr
  by_cases ha:lessP (keyE a) (keyE x)=true
  ·simp only [List.map_cons,List.takeWhile_cons,ha,if_true,List.length_cons,List.drop_succ_cons] at h
   exact placeP_hi hr'.2 x (fun y hy=>hn y (List.mem_cons_of_mem _ hy)) y h
  ·simp [ha] at h
   have hax:cEn x a<0:=by
    rcases cEn_total a x (hn a (by simp)) with q|q
    ·exact absurd ((lessP_cEn _ _).2 q) ha
    ·exact q
   rcases h with rfl|h
   ·exact hax
   ·exact cEn_tr _ _ _ hax (hr'.1 y h)
theorem ins_riseE {l:List En} (hr:l.Pairwise fun x y=>cEn x y<0) (x:En) (hn:∀ y∈l,keyE y≠keyE x):(insAt l (placeP (l.map keyE) (keyE x)) x).Pairwise fun x y=>cEn x y<0:=by
 unfold insAt
 have h1:=hr.sublist (List.take_sublist (placeP (l.map keyE) (keyE x)) l)
 have h2:=hr.sublist (List.drop_sublist (placeP (l.map keyE) (keyE x)) l)
 have lo:=placeP_lo l x
 have hi:=placeP_hi hr x hn
 rw [List.append_assoc,List.pairwise_append]
 refine⟨h1,?_,fun a ha b hb=>?_⟩
 ·rw [List.singleton_append,List.pairwise_cons]
  exact⟨fun b hb=>hi b hb,h2⟩
 ·rw [List.singleton_append,List.mem_cons] at hb
  rcases hb with rfl|hb
  ·exact lo a ha
  ·exact cEn_tr _ _ _ (lo a ha) (hi b hb)
theorem findI_out:∀ (l:List XID) (x:XID),x ∉ l→findI l x=-1
 | [],_,_=>rfl
 | a::l,x,h=>by
  rw [findI,if_neg fun e=>h (by rw [e]; simp),findI_out l x fun q=>h (List.mem_cons_of_mem _ q),if_pos rfl]
theorem findK_ne {κ:Type} [DecidableEq κ] {l:List κ} {x:κ} (h:findK l x=-1):x ∉ l:=by
 rcases findK_or l x with _|⟨k,h1,_⟩
 ·intro hm
  induction l with
  | nil=>simp at hm
  | cons a l ih =>
   rw [findK] at h
   split at h
   ·cases h
   ·rename_i hne
    split at h
    ·rename_i h2
     rcases List.mem_cons.1 hm with e|e
     ·exact hne e.symm
     ·exact ih h2 h2 e
    ·rename_i h2
     have:=findK_or l x
     rcases this with q|⟨k,q,_⟩
     ·exact h2 q
     ·omega
 ·omega
theorem ok_ent {b:Br} (h:OkBr b) {l:List En} (hp:l.Pairwise fun x y=>cEn x y<0) (ho:∀ e∈l,okEn b e=true):OkBr { b with ent:=l } :=
 ⟨h.near,h.seen,h.adv,hp,h.own,h.oks,fun e he=>okEn_of (b:=b) rfl rfl (ho e he),h.oko⟩
theorem add_ok {b:Br} (h:OkBr b) (e:En) (hc:comesB b.near e.from_=true) (hq:Wr.rightP e.p=true):OkBr (addB b e).1:=by
 unfold addB
 split
 ·exact h
 ·rename_i a ha
  split
  ·exact h
  ·rename_i h1
   split
   ·exact h
   ·rename_i h2
    split
    ·exact h
    ·rename_i h3
     have hid:a.id=e.tree:=by
      have hm:e.tree∈b.adv.map Ad.id:=Decidable.byContradiction fun q=>h1 (findI_out _ _ q)
      obtain⟨k2,h5,h6⟩:=findI_mem _ _ hm
      rw [h5,Int.toNat_natCast] at ha
      rw [List.getElem?_map,ha] at h6
      exact Option.some.inj h6
     have hf:findA b.adv e.tree=some a:=by
      rw [← hid]
      exact findA_uniq h.adv (List.mem_of_getElem? ha)
     have hins:=ins_riseE h.ent { e with up:=decide (a.par≠-1) && !coveredE b.ent e.tree e.p } fun y hy hk=>by
      have hm:keyE e∈b.ent.map keyE:=List.mem_map.2 ⟨y,hy,hk⟩
      have h9:findK (b.ent.map keyE) (keyE e)=-1:=Decidable.not_not.1 h2
      exact findK_ne h9 hm
     refine ok_ent h hins fun q hq2=>?_
     rcases (mem_ins _ _ _ _).1 hq2 with rfl|hq2
     ·unfold okEn
      simp only [hf]
      have h4:¬ (e.from_≠-1∧e.from_=a.par):=h3
      rw [hc,hq]
      by_cases g1:e.from_=a.par
      ·have g2:a.par=-1:=by
        rw [← g1]
        exact Decidable.byContradiction fun q=>h4 ⟨q,g1⟩
       simp [g1,g2]
      ·by_cases g2:a.par=-1 <;> simp [g1,g2]
     ·exact h.oke q hq2
theorem takeStep_keys (t:XID) (s:List En×List En) (k:Nat):(takeStep t s k).1.map keyE=s.1.map keyE:=by
 unfold takeStep
 split
 ·rfl
 ·rename_i e he
  split
  ·rw [List.map_set]
   refine List.ext_getElem? fun j=>?_
   rw [List.getElem?_set]
   split
   ·rename_i hj
    subst hj
    split
    ·rw [List.getElem?_map,he]
     rfl
    ·rename_i hl
     rw [List.getElem?_eq_none (by simpa using hl)]
   ·rfl
  ·rfl
theorem takeK_keys (t:XID) (m:List En):∀ k,(takeK t m k).1.map keyE=m.map keyE
 | 0=>rfl
 | k+1=>by rw [takeK_succ,takeStep_keys,takeK_keys t m k]
theorem pair_keys {l m:List En} (h:l.map keyE=m.map keyE) (hp:m.Pairwise fun x y=>cEn x y<0):l.Pairwise fun x y=>cEn x y<0:=by
 have h1:∀ l:List En,(l.Pairwise fun x y=>cEn x y<0)↔(l.map keyE).Pairwise fun x y=>lessP x y=true:=fun l=>by
  rw [List.pairwise_map]
  exact⟨fun q=>q.imp fun {a b} r=>(lessP_cEn a b).2 r,fun q=>q.imp fun {a b} r=>(lessP_cEn a b).1 r⟩
 rw [h1,h,← h1]
 exact hp
theorem cut_sub {α:Type} (l:List α) (k:Nat):(cutAt l k).Sublist l:=by
 unfold cutAt
 conv=>rhs; rw [← List.take_append_drop k l]
 exact (List.Sublist.refl _).append (List.drop_sublist_drop_left l (Nat.le_succ k))
theorem take_ok {b:Br} (h:OkBr b) (t x:XID) (f:Int):OkBr (takeB b t x f).1:=by
 unfold takeB
 split
 ·exact h
 ·rename_i e0 he0
  split
  ·exact h
  ·rename_i h1
   split
   ·exact h
   ·split
    ·exact ok_ent h (h.ent.sublist (cut_sub _ _)) fun q hq=>h.oke q (mem_cut hq)
    ·rename_i hup
     have hup2:e0.up=true:=by simpa using hup
     have ht:e0.tree=t:=by
      rcases findK_or (b.ent.map keyE) (t,x) with q|⟨k,q,r⟩
      ·exact absurd q h1
      ·rw [q,Int.toNat_natCast] at he0
       rw [List.getElem?_map,he0] at r
       exact congrArg Prod.fst (Option.some.inj r)
     have ho0:=h.oke e0 (List.mem_of_getElem? he0)
     refine ok_ent h (pair_keys (takeK_keys _ _ _) (h.ent.sublist (cut_sub _ _))) ?_
     refine (takeK_all (fun e=>okEn b e=true) (fun e he hr=>?_) (fun q hq=>h.oke q (mem_cut hq)) _).1
     unfold okEn at hr ho0 ⊢
     rw [ht] at ho0
     show (match findA b.adv e.tree with | none=>false | some a=>_)=true
     rw [he] at hr ⊢
     cases hfa:findA b.adv t with
     | none=>rw [hfa] at hr; cases hr
     | some a =>
      rw [hfa] at hr ho0
      simp only [Bool.and_eq_true] at hr ho0 ⊢
      refine⟨hr.1,hr.2.1,?_,hr.2.2.2⟩
      have h9:=ho0.2.2.1
      rw [hup2] at h9
      exact h9
theorem drop_ok {b:Br} (h:OkBr b) (t x:XID) (f:Int):OkBr (dropB b t x f).1:=by
 rw [dropB_near]
 exact take_ok h t x f
theorem unsubK_okB {b:Br} (h:OkBr b) (x:XID):∀ k,k≤b.adv.length→OkBr (unsubK b x k).1
 | 0,_=>⟨h.near,h.seen,h.adv,h.ent,h.own.sublist List.filter_sublist,h.oks,fun e he=>okEn_of (b:=b) rfl rfl (h.oke e he),fun o ho=>h.oko o ((List.mem_filter.1 ho).1)⟩
 | k+1,hk=>by
  obtain⟨a,ha⟩:∃ a,b.adv[k]?=some a:=⟨_,List.getElem?_eq_getElem hk⟩
  rw [unsubK_succ b x ha]
  exact drop_ok (unsubK_okB h x k (by omega)) _ _ _
theorem unsubs_ok {b:Br} (h:OkBr b) (x:XID):OkBr (unsubsB b x).1:=by
 unfold unsubsB
 split
 ·exact h
 ·exact unsubK_okB h x _ (Nat.le_refl _)
theorem foldK_P {α:Type} {l:List α} {f:Br×List Ou→α→Br×List Ou} {s0:Br×List Ou} (P:Br→Prop) (h0:P s0.1) (hs:∀ s a,a∈l→P s.1→P (f s a).1):∀ k,k≤l.length→P (foldK l f s0 k).1
 | 0,_=>h0
 | k+1,hk=>by
  obtain⟨a,ha⟩:∃ a,l[k]?=some a:=⟨_,List.getElem?_eq_getElem hk⟩
  rw [foldK_succ f s0 ha]
  exact hs _ a (List.mem_of_getElem? ha) (foldK_P P h0 hs k (by omega))
theorem step_ok {s:Br×List Ou} (h:OkBr s.1) (mt:Bool) (e:En) (t:Int) (hc:comesB s.1.near e.from_=true) (hq:Wr.rightP e.p=true):OkBr (addStep s mt e t).1:=by
 unfold addStep
 split
 ·exact h
 ·exact add_ok h e hc hq
theorem comes_own (l:List Int):comesB l (-1)=true:=by simp [comesB]
theorem adv_ok {b:Br} (h:OkBr b) (f:Int) (x:XID) (p:List C5) (hc:comesB b.near f=true) (hq:Wr.rightP p=true):OkBr (advB b f x p).1:=by
 have hl:=learn_ok h ⟨x,p,f⟩ hc hq
 unfold advB
 split
 ·exact hl
 ·refine foldK_P OkBr hl (fun s o ho hs=>step_ok hs _ _ _ (comes_own _) ?_) _ (Nat.le_refl _)
  rw [(learn_same b ⟨x,p,f⟩).2.2.2] at ho
  exact h.oko o ho
theorem there_not {l:List Ow} (hr:RiseK Ow.id l) {x:XID} (h:¬ (l[placeI (l.map Ow.id) x]?).map Ow.id=some x):∀ y∈l,y.id≠x:=by
 intro y hy e
 apply h
 rw [← placeK_map]
 have ht:thereK Ow.id l x=true:=by
  rw [thereK_in hr]
  exact decide_eq_true (List.mem_map.2 ⟨y,hy,e⟩)
 unfold thereK at ht
 cases hg:l[placeK Ow.id l x]? with
 | none=>rw [hg] at ht; cases ht
 | some z =>
  rw [hg] at ht
  rw [Option.map_some,of_decide_eq_true ht]
theorem subs_ok {b:Br} (h:OkBr b) (x:XID) (p:List C5) (hq:Wr.rightP p=true):OkBr (subsB b x p).1:=by
 unfold subsB
 split
 ·exact h
 ·rename_i hn
  have hi:OkBr (ownIn b x p):=by
   have hr:RiseK Ow.id (insAt b.own (placeI (b.own.map Ow.id) x) ⟨x,p⟩):=by
    rw [← placeK_map]
    exact ins_rise h.own ⟨x,p⟩ (there_not h.own hn)
   exact⟨h.near,h.seen,h.adv,h.ent,hr,h.oks,fun e he=>okEn_of (b:=b) rfl rfl (h.oke e he),fun o ho=>by
    rcases (mem_ins _ _ _ _).1 ho with rfl|ho
    ·exact hq
    ·exact h.oko o ho⟩
  exact foldK_P OkBr hi (fun s a _ hs=>step_ok hs _ _ _ (comes_own _) hq) _ (Nat.le_refl _)
structure KI (i:Nat) (b:Br):Prop where
 ok:OkBr b
 pa:∀ a∈b.adv,PredOk a.p
 pe:∀ e∈b.ent,PredOk e.p
 po:∀ o∈b.own,PredOk o.p
 ln:b.near.length≤4
 ls:b.seen.length≤i
 la:b.adv.length≤i
 lo:b.own.length≤i
 le:b.ent.length≤i * 12
theorem KI.kn {i:Nat} {b:Br} (h:KI i b):∀ e∈b.ent,e.tree∈b.adv.map Ad.id:=fun e he=>by
 have h1:=h.ok.oke e he
 unfold okEn at h1
 cases hf:findA b.adv e.tree with
 | none=>rw [hf] at h1; cases h1
 | some a =>
  obtain⟨q1,q2⟩:=findA_some hf
  exact List.mem_map.2 ⟨a,q1,q2⟩
theorem KI.more {i:Nat} {b:Br} (h:KI i b):KI (i+1) b:=⟨h.ok,h.pa,h.pe,h.po,h.ln,Nat.le_succ_of_le h.ls,Nat.le_succ_of_le h.la,Nat.le_succ_of_le h.lo,by have:=h.le; omega⟩
theorem learn_mem (b:Br) (a:Ad):∀ y∈(learnB b a).1.adv,y=a∨y∈b.adv:=by
 unfold learnB
 split
 ·exact fun y hy=>Or.inr hy
 ·exact fun y hy=>(mem_ins _ _ _ _).1 hy
theorem KI.adv {i:Nat} {b:Br} (h:KI i b) (hi:i<12) (f:Int) (x:XID) (p:List C5) (hc:comesB b.near f=true) (hq:Wr.rightP p=true) (hp:PredOk p):KI (i+1) (advB b f x p).1:=by
 have hok:=adv_ok h.ok f x p hc hq
 obtain⟨m1,m2,m3,m4⟩:=learn_same b ⟨x,p,f⟩
 obtain⟨n1,n2⟩:=learn_len b ⟨x,p,f⟩
 have lm:=learn_mem b ⟨x,p,f⟩
 have hpa:∀ a∈(learnB b ⟨x,p,f⟩).1.adv,PredOk a.p:=fun a ha=>by
  rcases lm a ha with rfl|ha
  ·exact hp
  ·exact h.pa a ha
 have h1:=h.ls
 have h2:=h.la
 have h3:=h.lo
 have h4:=h.le
 revert hok
 unfold advB
 split
 ·intro hok
  exact⟨hok,hpa,by rw [m3]; exact h.pe,by rw [m4]; exact h.po,by rw [m2]; exact h.ln,Nat.le_trans n2 (by omega),Nat.le_trans n1 (by omega),by rw [m4]; omega,by rw [m3]; omega⟩
 ·intro hok
  obtain⟨q1,q2,_⟩:=foldK_ok (l:=(learnB b ⟨x,p,f⟩).1.own) (b0:=(learnB b ⟨x,p,f⟩).1) (o0:=othersO b.near f 1 x (0,0) p) (fun o=>meetsC o.p p) (fun o=>advE x o) (fun _=>f) (fun e=>PredOk e.p) (by rw [m3]; exact h.pe) (fun o ho _=>by rw [m4] at ho; exact h.po o ho) _ (Nat.le_refl _)
  refine⟨hok,?_,q2,?_,?_,?_,?_,?_,?_⟩
  ·intro a ha
   rw [show (foldK _ (advF f x p) _ _).1.adv=_ from q1.adv] at ha
   exact hpa a ha
  ·intro o ho
   rw [show (foldK _ (advF f x p) _ _).1.own=_ from q1.own,m4] at ho
   exact h.po o ho
  ·rw [show (foldK _ (advF f x p) _ _).1.near=_ from q1.near,m2]
   exact h.ln
  ·rw [show (foldK _ (advF f x p) _ _).1.seen=_ from q1.seen]
   omega
  ·rw [show (foldK _ (advF f x p) _ _).1.adv=_ from q1.adv]
   omega
  ·rw [show (foldK _ (advF f x p) _ _).1.own=_ from q1.own,m4]
   omega
  ·have q3:=q1.len
   rw [m3,m4] at q3
   refine Nat.le_trans (show (foldK _ (advF f x p) _ _).1.ent.length≤_ from by rw [m4]; exact q3) ?_
   omega
theorem KI.subs {i:Nat} {b:Br} (h:KI i b) (hi:i<12) (x:XID) (p:List C5) (hq:Wr.rightP p=true) (hp:PredOk p):KI (i+1) (subsB b x p).1:=by
 have hok:=subs_ok h.ok x p hq
 have h1:=h.ls
 have h2:=h.la
 have h3:=h.lo
 have h4:=h.le
 revert hok
 unfold subsB
 split
 ·intro hok
  exact h.more
 ·intro hok
  obtain⟨q1,q2,_⟩:=foldK_ok (l:=b.adv) (b0:=ownIn b x p) (o0:=[]) (fun a=>meetsC p a.p) (fun a=>subE' x p a) (fun a=>a.par) (fun e=>PredOk e.p) h.pe (fun o ho _=>hp) _ (Nat.le_refl _)
  refine⟨hok,?_,q2,?_,?_,?_,?_,?_,?_⟩
  ·intro a ha
   rw [show (foldK _ (subF x p) _ _).1.adv=_ from q1.adv] at ha
   exact h.pa a ha
  ·intro o ho
   rw [show (foldK _ (subF x p) _ _).1.own=_ from q1.own] at ho
   rcases (mem_ins _ _ _ _).1 ho with rfl|ho
   ·exact hp
   ·exact h.po o ho
  ·rw [show (foldK _ (subF x p) _ _).1.near=_ from q1.near]
   exact h.ln
  ·rw [show (foldK _ (subF x p) _ _).1.seen=_ from q1.seen]
   show b.seen.length≤_
   omega
  ·rw [show (foldK _ (subF x p) _ _).1.adv=_ from q1.adv]
   show b.adv.length≤_
   omega
  ·rw [show (foldK _ (subF x p) _ _).1.own=_ from q1.own]
   show (insAt _ _ _).length≤_
   rw [insAt_len]
   omega
  ·have q3:=q1.len
   have q4:(ownIn b x p).ent.length=b.ent.length:=rfl
   refine Nat.le_trans (show (foldK _ (subF x p) _ _).1.ent.length≤_ from q3) ?_
   omega
theorem KI.unsubs {i:Nat} {b:Br} (h:KI i b) (x:XID):KI (i+1) (unsubsB b x).1:=by
 have hok:=unsubs_ok h.ok x
 have h1:=h.ls
 have h2:=h.la
 have h3:=h.lo
 have h4:=h.le
 revert hok
 unfold unsubsB
 split
 ·intro hok
  exact h.more
 ·intro hok
  have q1:=(unsubK_ok b x b.adv.length (Nat.le_refl _)).1
  refine⟨hok,by rw [q1.adv]; exact h.pa,unsubK_all b x (fun e=>PredOk e.p) (fun _ h=>h) h.pe _ (Nat.le_refl _),?_,by rw [q1.near]; exact h.ln,by rw [q1.seen]; omega,by rw [q1.adv]; omega,?_,by have:=q1.len; omega⟩
  ·rw [q1.own]
   exact fun o ho=>h.po o ((List.mem_filter.1 ho).1)
  ·rw [q1.own]
   have h5:=List.length_filter_le (fun o:Ow=>decide (o.id≠x)) b.own
   unfold ownBut
   omega
theorem KI.drop {i:Nat} {b:Br} (h:KI i b) (t x:XID) (f:Int):KI (i+1) (dropB b t x f).1:=by
 have hok:=drop_ok h.ok t x f
 have h1:=h.ls
 have h2:=h.la
 have h3:=h.lo
 have h4:=h.le
 rw [dropB_near] at hok ⊢
 obtain⟨m1,m2,_,m4,m5⟩:=takeB_adv b t x f
 exact⟨hok,by rw [m1]; exact h.pa,(takeB_all t x f (fun e=>PredOk e.p) (fun _ _ h=>h) h.pe).1,by rw [m5]; exact h.po,by rw [m2]; exact h.ln,by rw [m4]; omega,by rw [m1]; omega,by rw [m5]; omega,by have:=(takeB_len b t x f).1; omega⟩
theorem KI.onsub {i:Nat} {b:Br} (h:KI i b) (f:Int) (t x:XID) (p:List C5) (hc:comesB b.near f=true) (hq:Wr.rightP p=true) (hp:PredOk p):KI (i+1) (onSubB b f t x p).1:=by
 have hok:=add_ok h.ok ⟨t,x,p,f,false⟩ hc hq
 have h1:=h.ls
 have h2:=h.la
 have h3:=h.lo
 have h4:=h.le
 rw [onSubB_br]
 obtain⟨_,m2,m1,m4,m5⟩:=addB_same b ⟨t,x,p,f,false⟩
 exact⟨hok,by rw [m1]; exact h.pa,addB_all (fun e=>PredOk e.p) h.pe (fun _=>hp),by rw [m5]; exact h.po,by rw [m2]; exact h.ln,by rw [m4]; omega,by rw [m1]; omega,by rw [m5]; omega,by have:=addB_len b ⟨t,x,p,f,false⟩; omega⟩
theorem KI.forget {i:Nat} {b:Br} (h:KI i b) (x:XID) (f:Int):KI (i+1) (forgetB b x f).1:=by
 have hok:=forget_ok h.ok x f
 rw [forgetF_eq h.ok.adv] at hok
 have h1:=h.ls
 have h2:=h.la
 have h3:=h.lo
 have h4:=h.le
 revert hok
 unfold forgetB
 split
 ·exact fun _=>h.more
 ·split
  ·exact fun _=>h.more
  ·split
   ·intro hok
    exact⟨hok,fun a ha=>h.pa a (mem_cut ha),fun e he=>h.pe e ((List.mem_filter.1 he).1),h.po,h.ln,Nat.le_succ_of_le h1,by have h5:=(cut_sub b.adv (findI (b.adv.map Ad.id) x).toNat).length_le; show (cutAt _ _).length≤_; omega,Nat.le_succ_of_le h3,by have h5:=List.length_filter_le (fun e:En=>decide (e.tree≠x)) b.ent; show (List.filter _ _).length≤_; omega⟩
   ·exact fun _=>h.more
theorem side_comes (l:List Int) (n:Int):comesB l (sideI l n)=true:=by
 unfold sideI
 cases h:l[(Wi.within n 0 l.length).toNat]? with
 | none=>exact comes_own l
 | some z =>
  have:=List.mem_of_getElem? h
  simp [comesB,this]
end Go.Proofs.YtncogjpmboglhaaGreat.Av
