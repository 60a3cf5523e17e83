/-
  A broker that the st. Conditions as told.
-/
import Derived.Test.YtmklifheakemeaaGreatCQ036
import Derived.Test.YtmklifheakemeaaGreatCQ040
import Derived.Test.YtmklifheakemeaaGreatCQ037
set_option maxRecDepth 100000
set_option maxHeartbeats 64000000
open _root_.Bool renaming true->Q,and_eq_true->aA,false->aF
open _root_.Decidable renaming byContradiction->V,not_not->aD
open _root_.List renaming getElem?_eq_getElem->J,mem_of_getElem?->L,mem_filter->O,mem_map->U,getElem?_map->X,singleton_append->Z,length_filter_le->ah,mem_cons_of_mem->aj,takeWhile_cons->ak,mem_cons->au,pairwise_cons->ay,length_cons->aB,map_cons->aC
open _root_.Nat renaming le_refl->D,le_succ_of_le->K,le_trans->Y
namespace Go.Proofs.YtmklifheakemeaaGreat
namespace Av
open Go.RowKit Go.Sort Rw YtmklifheakemeaaGreat.Nm Pr Bk
theorem vG (x y:En):jM (fO x) (fO y)=Q↔xI x y<0:=by
 rw [vg];unfold jM fO;simp only [Bool.or_eq_true,aA,qh]
theorem Ta (x y:En) (h:fO x≠fO y):xI x y<0\/xI y x<0:=by
 rw [vg,vg];rcases qj x.tree y.tree with q|q|q
 ·exact Or.inl (Or.inl q)
 ·rcases qj x.sub y.sub with r|r|r
  ·exact Or.inl (Or.inr ⟨q,r⟩)
  ·exact absurd (Prod.ext q r) h
  ·exact Or.inr (Or.inr ⟨q.symm,r⟩)
 ·exact Or.inr (Or.inl q)
theorem Gi:∀ (l:List En) (x:En),∀ y∈l.take (fB (l.map fO) (fO x)),xI y x<0
 | [],_,y,h=>by simp at h
 | a::l,x,y,h=>by
  unfold fB at h;by_cases ha:jM (fO a) (fO x)=Q
  ·simp only [aC,ak,ha,if_true,aB,List.take_succ_cons,au] at h;rcases h with rfl|h
   ·exact (vG _ _).1 ha
   ·exact Gi l x y h
  ·simp [ha] at h
theorem Gj:∀ {l:List En} (_:l.Pairwise fun x y=>xI x y<0) (x:En) (_:∀ y∈l,fO y≠fO x),∀ y∈l.drop (fB (l.map fO) (fO x)),xI x y<0
 | [],_,_,_,y,h=>by simp at h
 | a::l,hr,x,hn,y,h=>by
  unfold fB at h;have hr':=ay.1 hr;by_cases ha:jM (fO a) (fO x)=Q
  ·simp only [aC,ak,ha,if_true,aB,List.drop_succ_cons] at h;exact Gj hr'.2 x (fun y hy=>hn y (aj _ hy)) y h
  ·simp [ha] at h;have hax:xI x a<0:=by
    rcases Ta a x (hn a (by simp)) with q|q
    ·exact absurd ((vG _ _).2 q) ha
    ·exact q
   rcases h with rfl|h
   ·exact hax
   ·exact Ig _ _ _ hax (hr'.1 y h)
theorem Tc {l:List En} (hr:l.Pairwise fun x y=>xI x y<0) (x:En) (hn:∀ y∈l,fO y≠fO x):(gT l (fB (l.map fO) (fO x)) x).Pairwise fun x y=>xI x y<0:=by
 unfold gT;have h1:=hr.sublist (List.take_sublist (fB (l.map fO) (fO x)) l);have h2:=hr.sublist (List.drop_sublist (fB (l.map fO) (fO x)) l);have lo:=Gi l x;have hi:=Gj hr x hn;rw [List.append_assoc,List.pairwise_append];refine⟨h1,?_,fun a ha b hb=>?_⟩
 ·rw [Z,ay];exact⟨fun b hb=>hi b hb,h2⟩
 ·rw [Z,au] at hb;rcases hb with rfl|hb
  ·exact lo a ha
  ·exact Ig _ _ _ (lo a ha) (hi b hb)
theorem Gl:∀ (l:List fD) (x:fD),x ∉ l->fM l x=-1
 | [],_,_=>rfl
 | a::l,x,h=>by
  rw [fM,if_neg fun e=>h (by rw [e]; simp),Gl l x fun q=>h (aj _ q),if_pos rfl]
theorem XI {κ:Type} [DecidableEq κ] {l:List κ} {x:κ} (h:jh l x=-1):x ∉ l:=by
 rcases nN l x with _|⟨k,h1,_⟩
 ·intro hm
  induction l with
  | nil=>simp at hm
  | cons a l ih =>
   rw [jh] at h
   split at h
   ·cases h
   ·rename_i hne
    split at h
    ·rename_i h2
     rcases au.1 hm with e|e
     ·exact hne e.symm
     ·exact ih h2 h2 e
    ·rename_i h2
     have:=nN l x;rcases this with q|⟨k,q,_⟩
     ·exact h2 q
     ·omega
 ·omega
theorem NS {b:Br} (h:ji b) {l:List En} (hp:l.Pairwise fun x y=>xI x y<0) (ho:∀ e∈l,pU b e=Q):ji { b with ent:=l } :=
 ⟨h.near,h.seen,h.dP,hp,h.own,h.oks,fun e he=>vk (b:=b) rfl rfl (ho e he),h.Z9⟩
theorem XJ {b:Br} (h:ji b) (e:En) (hc:iL b.near e.from_=Q) (hq:Wr.fU e.p=Q):ji (iK b e).1:=by
 unfold iK
 split
 ·exact h
 ·rename_i a ha
  split
  ·exact h
  ·rename_i h1
   split
   ·exact h
   ·rename_i h2
    split
    ·exact h
    ·rename_i h3
     have hid:a.id=e.tree:=by
      have hm:e.tree∈b.dP.map Ad.id:=V fun q=>h1 (Gl _ _ q);obtain⟨k2,h5,h6⟩:=FJ _ _ hm;rw [h5,Int.toNat_natCast] at ha;rw [X,ha] at h6;exact Option.some.inj h6
     have hf:gG b.dP e.tree=some a:=by
      rw [<- hid];exact pV h.dP (L ha)
     have hins:=Tc h.ent { e with up:=decide (a.par≠-1) && !fE b.ent e.tree e.p } fun y hy hk=>by
      have hm:fO e∈b.ent.map fO:=U.2 ⟨y,hy,hk⟩;have h9:jh (b.ent.map fO) (fO e)=-1:=aD.1 h2;exact XI h9 hm
     refine NS h hins fun q hq2=>?_;rcases (kL _ _ _ _).1 hq2 with rfl|hq2
     ·unfold pU;simp only [hf];have h4:¬ (e.from_≠-1/\e.from_=a.par):=h3;rw [hc,hq];by_cases g1:e.from_=a.par
      ·have g2:a.par=-1:=by
        rw [<- g1];exact V fun q=>h4 ⟨q,g1⟩
       simp [g1,g2]
      ·by_cases g2:a.par=-1 <;> simp [g1,g2]
     ·exact h.R6 q hq2
theorem D8 (t:fD) (s:List En×List En) (k:Nat):(iV t s k).1.map fO=s.1.map fO:=by
 unfold iV
 split
 ·rfl
 ·rename_i e he
  split
  ·rw [List.map_set];refine List.ext_getElem? fun j=>?_;rw [List.getElem?_set]
   split
   ·rename_i hj
    subst hj
    split
    ·rw [X,he]
     rfl
    ·rename_i hl
     rw [List.getElem?_eq_none (by simpa using hl)]
   ·rfl
  ·rfl
theorem wS (t:fD) (m:List En):∀ k,(jk t m k).1.map fO=m.map fO
 | 0=>rfl
 | k+1=>by rw [nC,D8,wS t m k]
theorem Td {l m:List En} (h:l.map fO=m.map fO) (hp:m.Pairwise fun x y=>xI x y<0):l.Pairwise fun x y=>xI x y<0:=by
 have h1:∀ l:List En,(l.Pairwise fun x y=>xI x y<0)↔(l.map fO).Pairwise fun x y=>jM x y=Q:=fun l=>by
  rw [List.pairwise_map];exact⟨fun q=>q.imp fun {a b} r=>(vG a b).2 r,fun q=>q.imp fun {a b} r=>(vG a b).1 r⟩
 rw [h1,h,<- h1];exact hp
theorem Iz {α:Type} (l:List α) (k:Nat):(cutAt l k).Sublist l:=by
 unfold cutAt
 conv=>rhs; rw [<- List.take_append_drop k l]
 exact (List.Sublist.refl _).append (List.drop_sublist_drop_left l (Nat.le_succ k))
theorem abh {b:Br} (h:ji b) (t x:fD) (f:Int):ji (takeB b t x f).1:=by
 unfold takeB
 split
 ·exact h
 ·rename_i e0 he0
  split
  ·exact h
  ·rename_i h1
   split
   ·exact h
   ·split
    ·exact NS h (h.ent.sublist (Iz _ _)) fun q hq=>h.R6 q (sK hq)
    ·rename_i hup
     have alZ:e0.up=Q:=by simpa using hup
     have ht:e0.tree=t:=by
      rcases nN (b.ent.map fO) (t,x) with q|⟨k,q,r⟩
      ·exact absurd q h1
      ·rw [q,Int.toNat_natCast] at he0;rw [X,he0] at r;exact congrArg Prod.fst (Option.some.inj r)
     have ho0:=h.R6 e0 (L he0);refine NS h (Td (wS _ _ _) (h.ent.sublist (Iz _ _))) ?_;refine (zf (fun e=>pU b e=Q) (fun e he hr=>?_) (fun q hq=>h.R6 q (sK hq)) _).1;unfold pU at hr ho0 ⊢;rw [ht] at ho0;show (match gG b.dP e.tree with | none=>aF | some a=>_)=Q;rw [he] at hr ⊢;cases hfa:gG b.dP t with
     | none=>rw [hfa] at hr; cases hr
     | some a =>
      rw [hfa] at hr ho0;simp only [aA] at hr ho0 ⊢;refine⟨hr.1,hr.2.1,?_,hr.2.2.2⟩;have h9:=ho0.2.2.1;rw [alZ] at h9;exact h9
theorem Qi {b:Br} (h:ji b) (t x:fD) (f:Int):ji (kU b t x f).1:=by
 rw [jB];exact abh h t x f
theorem Dm {b:Br} (h:ji b) (x:fD):∀ k,k<=b.dP.length->ji (ko b x k).1
 | 0,_=>⟨h.near,h.seen,h.dP,h.ent,h.own.sublist List.filter_sublist,h.oks,fun e he=>vk (b:=b) rfl rfl (h.R6 e he),fun o ho=>h.Z9 o ((O.1 ho).1)⟩
 | k+1,hk=>by
  obtain⟨a,ha⟩:∃ a,b.dP[k]?=some a:=⟨_,J hk⟩;rw [l7 b x ha];exact Qi (Dm h x k (by omega)) _ _ _
theorem Te {b:Br} (h:ji b) (x:fD):ji (jd b x).1:=by
 unfold jd
 split
 ·exact h
 ·exact Dm h x _ (D _)
theorem sP {α:Type} {l:List α} {f:Br×List Ou->α->Br×List Ou} {s0:Br×List Ou} (P:Br->Prop) (h0:P s0.1) (hs:∀ s a,a∈l->P s.1->P (f s a).1):∀ k,k<=l.length->P (eF l f s0 k).1
 | 0,_=>h0
 | k+1,hk=>by
  obtain⟨a,ha⟩:∃ a,l[k]?=some a:=⟨_,J hk⟩;rw [kM f s0 ha];exact hs _ a (L ha) (sP P h0 hs k (by omega))
theorem step_ok {s:Br×List Ou} (h:ji s.1) (mt:Bool) (e:En) (t:Int) (hc:iL s.1.near e.from_=Q) (hq:Wr.fU e.p=Q):ji (fZ s mt e t).1:=by
 unfold fZ
 split
 ·exact h
 ·exact XJ h e hc hq
theorem oZ (l:List Int):iL l (-1)=Q:=by simp [iL]
theorem XK {b:Br} (h:ji b) (f:Int) (x:fD) (p:List C5) (hc:iL b.near f=Q) (hq:Wr.fU p=Q):ji (gy b f x p).1:=by
 have hl:=uh h ⟨x,p,f⟩ hc hq;unfold gy
 split
 ·exact hl
 ·refine sP ji hl (fun s o ho hs=>step_ok hs _ _ _ (oZ _) ?_) _ (D _);rw [(iP b ⟨x,p,f⟩).2.2.2] at ho;exact h.Z9 o ho
theorem Gm {l:List Ow} (hr:lC Ow.id l) {x:fD} (h:¬ (l[gq (l.map Ow.id) x]?).map Ow.id=some x):∀ y∈l,y.id≠x:=by
 intro y hy e;apply h;rw [<- jA];have ht:kZ Ow.id l x=Q:=by
  rw [yX hr];exact decide_eq_true (U.2 ⟨y,hy,e⟩)
 unfold kZ at ht;cases hg:l[gF Ow.id l x]? with
 | none=>rw [hg] at ht; cases ht
 | some z =>
  rw [hg] at ht;rw [Option.map_some,of_decide_eq_true ht]
theorem abj {b:Br} (h:ji b) (x:fD) (p:List C5) (hq:Wr.fU p=Q):ji (lN b x p).1:=by
 unfold lN
 split
 ·exact h
 ·rename_i hn
  have hi:ji (ownIn b x p):=by
   have hr:lC Ow.id (gT b.own (gq (b.own.map Ow.id) x) ⟨x,p⟩):=by
    rw [<- jA];exact kR h.own ⟨x,p⟩ (Gm h.own hn)
   exact⟨h.near,h.seen,h.dP,h.ent,hr,h.oks,fun e he=>vk (b:=b) rfl rfl (h.R6 e he),fun o ho=>by
    rcases (kL _ _ _ _).1 ho with rfl|ho
    ·exact hq
    ·exact h.Z9 o ho⟩
  exact sP ji hi (fun s a _ hs=>step_ok hs _ _ _ (oZ _) hq) _ (D _)
structure KI (i:Nat) (b:Br):Prop where
 ok:ji b
 pa:∀ a∈b.dP,eD a.p
 pe:∀ e∈b.ent,eD e.p
 po:∀ o∈b.own,eD o.p
 ln:b.near.length<=4
 ls:b.seen.length<=i
 la:b.dP.length<=i
 lo:b.own.length<=i
 le:b.ent.length<=i * 12
theorem KI.kn {i:Nat} {b:Br} (h:KI i b):∀ e∈b.ent,e.tree∈b.dP.map Ad.id:=fun e he=>by
 have h1:=h.ok.R6 e he;unfold pU at h1;cases hf:gG b.dP e.tree with
 | none=>rw [hf] at h1; cases h1
 | some a =>
  obtain⟨q1,q2⟩:=ny hf;exact U.2 ⟨a,q1,q2⟩
theorem KI.more {i:Nat} {b:Br} (h:KI i b):KI (i+1) b:=⟨h.ok,h.pa,h.pe,h.po,h.ln,K h.ls,K h.la,K h.lo,by have:=h.le; omega⟩
theorem Gn (b:Br) (a:Ad):∀ y∈(eP b a).1.dP,y=a\/y∈b.dP:=by
 unfold eP
 split
 ·exact fun y hy=>Or.inr hy
 ·exact fun y hy=>(kL _ _ _ _).1 hy
theorem KI.dP {i:Nat} {b:Br} (h:KI i b) (hi:i<12) (f:Int) (x:fD) (p:List C5) (hc:iL b.near f=Q) (hq:Wr.fU p=Q) (hp:eD p):KI (i+1) (gy b f x p).1:=by
 have hok:=XK h.ok f x p hc hq;obtain⟨m1,m2,m3,m4⟩:=iP b ⟨x,p,f⟩;obtain⟨n1,n2⟩:=zh b ⟨x,p,f⟩;have lm:=Gn b ⟨x,p,f⟩;have hpa:∀ a∈(eP b ⟨x,p,f⟩).1.dP,eD a.p:=fun a ha=>by
  rcases lm a ha with rfl|ha
  ·exact hp
  ·exact h.pa a ha
 have h1:=h.ls;have h2:=h.la;have h3:=h.lo;have h4:=h.le;revert hok;unfold gy
 split
 ·intro hok;exact⟨hok,hpa,by rw [m3]; exact h.pe,by rw [m4]; exact h.po,by rw [m2]; exact h.ln,Y n2 (by omega),Y n1 (by omega),by rw [m4]; omega,by rw [m3]; omega⟩
 ·intro hok;obtain⟨q1,q2,_⟩:=lU (l:=(eP b ⟨x,p,f⟩).1.own) (b0:=(eP b ⟨x,p,f⟩).1) (o0:=fC b.near f 1 x (0,0) p) (fun o=>jH o.p p) (fun o=>oO x o) (fun _=>f) (fun e=>eD e.p) (by rw [m3]; exact h.pe) (fun o ho _=>by rw [m4] at ho; exact h.po o ho) _ (D _);refine⟨hok,?_,q2,?_,?_,?_,?_,?_,?_⟩
  ·intro a ha;rw [show (eF _ (iX f x p) _ _).1.dP=_ from q1.dP] at ha;exact hpa a ha
  ·intro o ho;rw [show (eF _ (iX f x p) _ _).1.own=_ from q1.own,m4] at ho;exact h.po o ho
  ·rw [show (eF _ (iX f x p) _ _).1.near=_ from q1.near,m2];exact h.ln
  ·rw [show (eF _ (iX f x p) _ _).1.seen=_ from q1.seen];omega
  ·rw [show (eF _ (iX f x p) _ _).1.dP=_ from q1.dP];omega
  ·rw [show (eF _ (iX f x p) _ _).1.own=_ from q1.own,m4];omega
  ·have q3:=q1.len;rw [m3,m4] at q3;refine Y (show (eF _ (iX f x p) _ _).1.ent.length<=_ from by rw [m4]; exact q3) ?_;omega
theorem KI.subs {i:Nat} {b:Br} (h:KI i b) (hi:i<12) (x:fD) (p:List C5) (hq:Wr.fU p=Q) (hp:eD p):KI (i+1) (lN b x p).1:=by
 have hok:=abj h.ok x p hq;have h1:=h.ls;have h2:=h.la;have h3:=h.lo;have h4:=h.le;revert hok;unfold lN
 split
 ·intro hok;exact h.more
 ·intro hok;obtain⟨q1,q2,_⟩:=lU (l:=b.dP) (b0:=ownIn b x p) (o0:=[]) (fun a=>jH p a.p) (fun a=>oh x p a) (fun a=>a.par) (fun e=>eD e.p) h.pe (fun o ho _=>hp) _ (D _);refine⟨hok,?_,q2,?_,?_,?_,?_,?_,?_⟩
  ·intro a ha;rw [show (eF _ (kr x p) _ _).1.dP=_ from q1.dP] at ha;exact h.pa a ha
  ·intro o ho;rw [show (eF _ (kr x p) _ _).1.own=_ from q1.own] at ho;rcases (kL _ _ _ _).1 ho with rfl|ho
   ·exact hp
   ·exact h.po o ho
  ·rw [show (eF _ (kr x p) _ _).1.near=_ from q1.near];exact h.ln
  ·rw [show (eF _ (kr x p) _ _).1.seen=_ from q1.seen];show b.seen.length<=_;omega
  ·rw [show (eF _ (kr x p) _ _).1.dP=_ from q1.dP];show b.dP.length<=_;omega
  ·rw [show (eF _ (kr x p) _ _).1.own=_ from q1.own];show (gT _ _ _).length<=_;rw [R7];omega
  ·have q3:=q1.len;have q4:(ownIn b x p).ent.length=b.ent.length:=rfl;refine Y (show (eF _ (kr x p) _ _).1.ent.length<=_ from q3) ?_;omega
theorem KI.agJ {i:Nat} {b:Br} (h:KI i b) (x:fD):KI (i+1) (jd b x).1:=by
 have hok:=Te h.ok x;have h1:=h.ls;have h2:=h.la;have h3:=h.lo;have h4:=h.le;revert hok;unfold jd
 split
 ·intro hok;exact h.more
 ·intro hok;have q1:=(rF b x b.dP.length (D _)).1;refine⟨hok,by rw [q1.dP]; exact h.pa,sM b x (fun e=>eD e.p) (fun _ h=>h) h.pe _ (D _),?_,by rw [q1.near]; exact h.ln,by rw [q1.seen]; omega,by rw [q1.dP]; omega,?_,by have:=q1.len; omega⟩
  ·rw [q1.own];exact fun o ho=>h.po o ((O.1 ho).1)
  ·rw [q1.own];have h5:=ah (fun o:Ow=>decide (o.id≠x)) b.own;unfold wO;omega
theorem KI.drop {i:Nat} {b:Br} (h:KI i b) (t x:fD) (f:Int):KI (i+1) (kU b t x f).1:=by
 have hok:=Qi h.ok t x f;have h1:=h.ls;have h2:=h.la;have h3:=h.lo;have h4:=h.le;rw [jB] at hok ⊢;obtain⟨m1,m2,_,m4,m5⟩:=kg b t x f;exact⟨hok,by rw [m1]; exact h.pa,(FT t x f (fun e=>eD e.p) (fun _ _ h=>h) h.pe).1,by rw [m5]; exact h.po,by rw [m2]; exact h.ln,by rw [m4]; omega,by rw [m1]; omega,by rw [m5]; omega,by have:=(vE b t x f).1; omega⟩
theorem KI.ajn {i:Nat} {b:Br} (h:KI i b) (f:Int) (t x:fD) (p:List C5) (hc:iL b.near f=Q) (hq:Wr.fU p=Q) (hp:eD p):KI (i+1) (og b f t x p).1:=by
 have hok:=XJ h.ok ⟨t,x,p,f,aF⟩ hc hq;have h1:=h.ls;have h2:=h.la;have h3:=h.lo;have h4:=h.le;rw [rJ];obtain⟨_,m2,m1,m4,m5⟩:=jK b ⟨t,x,p,f,aF⟩;exact⟨hok,by rw [m1]; exact h.pa,Km (fun e=>eD e.p) h.pe (fun _=>hp),by rw [m5]; exact h.po,by rw [m2]; exact h.ln,by rw [m4]; omega,by rw [m1]; omega,by rw [m5]; omega,by have:=Kn b ⟨t,x,p,f,aF⟩; omega⟩
theorem KI.forget {i:Nat} {b:Br} (h:KI i b) (x:fD) (f:Int):KI (i+1) (iD b x f).1:=by
 have hok:=Fx h.ok x f;rw [nu h.ok.dP] at hok;have h1:=h.ls;have h2:=h.la;have h3:=h.lo;have h4:=h.le;revert hok;unfold iD
 split
 ·exact fun _=>h.more
 ·split
  ·exact fun _=>h.more
  ·split
   ·intro hok;exact⟨hok,fun a ha=>h.pa a (sK ha),fun e he=>h.pe e ((O.1 he).1),h.po,h.ln,K h1,by have h5:=(Iz b.dP (fM (b.dP.map Ad.id) x).toNat).length_le; show (cutAt _ _).length<=_; omega,K h3,by have h5:=ah (fun e:En=>decide (e.tree≠x)) b.ent; show (List.filter _ _).length<=_; omega⟩
   ·exact fun _=>h.more
theorem wT (l:List Int) (n:Int):iL l (xK l n)=Q:=by
 unfold xK;cases h:l[(Wi.within n 0 l.length).toNat]? with
 | none=>exact oZ l
 | some z =>
  have:=L h;simp [iL,this]
abbrev KS (b:Br):Prop:=(∀ e∈b.ent,e.sub.1<=4)/\∀ o∈b.own,o.id.1<=4
theorem XM {b:Br} (h:KS b) (e:En) (he:e.sub.1<=4):KS (iK b e).1:=by
 unfold iK
 split
 ·exact h
 ·split
  ·exact h
  ·split
   ·exact h
   ·split
    ·exact h
    ·refine⟨fun z hz=>?_,h.2⟩;rcases (kL _ _ _ _).1 hz with rfl|hz
     ·exact he
     ·exact h.1 z hz
theorem Lb {s:Br×List Ou} (h:KS s.1) (mt:Bool) (e:En) (t:Int) (he:e.sub.1<=4):KS (fZ s mt e t).1:=by
 unfold fZ
 split
 ·exact h
 ·exact XM h e he
theorem IC {b:Br} (h:KS b) (f:Int) (x:fD) (p:List C5):KS (gy b f x p).1:=by
 have hs:=iP b ⟨x,p,f⟩;have hl:KS (eP b ⟨x,p,f⟩).1:=⟨by rw [hs.2.2.1]; exact h.1,by rw [hs.2.2.2]; exact h.2⟩;unfold gy
 split
 ·exact hl
 ·refine sP KS hl (fun s o ho hs2=>Lb hs2 _ _ _ ?_) _ (D _);rw [hs.2.2.2] at ho;exact h.2 o ho
theorem abk {b:Br} (h:KS b) (x:fD) (p:List C5) (hx:x.1<=4):KS (lN b x p).1:=by
 unfold lN
 split
 ·exact h
 ·have hi:KS (ownIn b x p):=⟨h.1,fun o ho=>by
   rcases (kL _ _ _ _).1 ho with rfl|ho
   ·exact hx
   ·exact h.2 o ho⟩
  exact sP KS hi (fun s a _ hs=>Lb hs _ _ _ hx) _ (D _)
theorem Qj {b:Br} (h:KS b) (t x:fD) (f:Int):KS (takeB b t x f).1:=by
 unfold takeB
 split
 ·exact h
 ·split
  ·exact h
  ·split
   ·exact h
   ·split
    ·exact⟨fun e he=>h.1 e (sK he),h.2⟩
    ·refine⟨fun e he=>?_,h.2⟩;have hk:fO e∈(jk t (cutAt b.ent (jh (b.ent.map fO) (t,x)).toNat) (cutAt b.ent (jh (b.ent.map fO) (t,x)).toNat).length).1.map fO:=U.2 ⟨e,he,rfl⟩;rw [wS] at hk;obtain⟨z,hz,hk2⟩:=U.1 hk;have h3:=h.1 z (sK hz);rw [<- show z.sub=e.sub from congrArg Prod.snd hk2];exact h3
theorem Gp {b:Br} (h:KS b) (x:fD):∀ k,k<=b.dP.length->KS (ko b x k).1
 | 0,_=>⟨h.1,fun o ho=>h.2 o ((O.1 ho).1)⟩
 | k+1,hk=>by
  obtain⟨a,ha⟩:∃ a,b.dP[k]?=some a:=⟨_,J hk⟩;rw [l7 b x ha];show KS (kU _ _ _ _).1;rw [jB];exact Qj (Gp h x k (by omega)) _ _ _
theorem Tf {b:Br} (h:KS b) (x:fD):KS (jd b x).1:=by
 unfold jd
 split
 ·exact h
 ·exact Gp h x _ (D _)
theorem AQ {b:Br} (h:KS b) (f mk:Int) (t x:fD) (p:List C5) (hx:x.1<=4):KS (kE b f mk t x p).1:=by
 unfold kE
 split
 ·exact IC h f t p
 ·split
  ·show KS (iD b t f).1;unfold iD
   split
   ·exact h
   ·split
    ·exact h
    ·split
     ·exact⟨fun e he=>h.1 e ((O.1 he).1),h.2⟩
     ·exact h
  ·split
   ·rw [rJ]; exact XM h _ hx
   ·rw [jB]; exact Qj h _ _ _
abbrev SnK (b:Br):Prop:=(∀ x∈b.seen,x.1<=2)/\KS b
end Av
namespace Sb
open Go.RowKit Go.Sort Rw YtmklifheakemeaaGreat.Nm Pr Bk Av
theorem NU {s:Br×List Ou} (h:ji s.1) (ht:iw s.1) (mt:Bool) (e:En) (t:Int):iw (fZ s mt e t).1:=by
 unfold fZ
 split
 ·exact ht
 ·exact Gf h e ht
theorem Dn {α:Type} {l:List α} (mt:α->Bool) (e:α->En) (t:α->Int) {s0:Br×List Ou} (h:ji s0.1) (ht:iw s0.1) (hc:∀ s:Br×List Ou,∀ a∈l,ji s.1->ji (fZ s (mt a) (e a) (t a)).1) (k:Nat) (hk:k<=l.length):iw (eF l (fun s a=>fZ s (mt a) (e a) (t a)) s0 k).1 :=
 (sP (fun b=>ji b/\iw b) ⟨h,ht⟩ (fun s a ha hs=>⟨hc s a ha hs.1,NU hs.1 hs.2 _ _ _⟩) k hk).2
theorem rY {b:Br} (h:ji b) (ht:iw b) (f:Int) (x:fD) (p:List C5) (hc:iL b.near f=Q) (hq:Wr.fU p=Q):iw (gy b f x p).1:=by
 have hl:=uh h ⟨x,p,f⟩ hc hq;have hlt:=Ky h ⟨x,p,f⟩ ht;unfold gy
 split
 ·exact hlt
 ·exact Dn (s0:=((eP b ⟨x,p,f⟩).1,fC b.near f 1 x (0,0) p)) (fun o=>jH o.p p) (fun o=>oO x o) (fun _=>f) hl hlt (fun s o ho hs=>step_ok hs _ _ _ (oZ _) (hl.Z9 o ho)) _ (D _)
theorem NV {b:Br} (h:ji b) (ht:iw b) (x:fD) (p:List C5) (hq:Wr.fU p=Q):iw (lN b x p).1:=by
 unfold lN
 split
 ·exact ht
 ·rename_i hn
  have hi:ji (ownIn b x p):=by
   have hr:lC Ow.id (gT b.own (gq (b.own.map Ow.id) x) ⟨x,p⟩):=by
    rw [<- jA];exact kR h.own ⟨x,p⟩ (Gm h.own hn)
   exact⟨h.near,h.seen,h.dP,h.ent,hr,h.oks,fun e he=>vk (b:=b) rfl rfl (h.R6 e he),fun o ho=>by
    rcases (kL _ _ _ _).1 ho with rfl|ho
    ·exact hq
    ·exact h.Z9 o ho⟩
  exact Dn (s0:=(ownIn b x p,[])) (fun a=>jH p a.p) (fun a=>oh x p a) (fun a=>a.par) hi (show iw (ownIn b x p) from ht) (fun s a _ hs=>step_ok hs _ _ _ (oZ _) hq) _ (D _)
theorem yx {b:Br} (ht:iw b) (x:fD):∀ k,k<=b.dP.length->iw (ko b x k).1
 | 0,_=>ht
 | k+1,hk=>by
  obtain⟨a,ha⟩:∃ a,b.dP[k]?=some a:=⟨_,J hk⟩;rw [l7 b x ha];show iw (kU _ _ _ _).1;rw [jB];exact CX _ _ _ (yx ht x k (by omega))
theorem IE {b:Br} (ht:iw b) (x:fD):iw (jd b x).1:=by
 unfold jd
 split
 ·exact ht
 ·exact yx ht x _ (D _)
theorem qD {b:Br} (h:ji b) (ht:iw b) (f mk:Int) (t x:fD) (p:List C5) (hc:iL b.near f=Q) (hq:Wr.fU p=Q):iw (kE b f mk t x p).1:=by
 unfold kE
 split
 ·exact rY h ht f t p hc hq
 ·split
  ·show iw (iD b t f).1;rw [<- nu h.dP];exact xZ t f ht
  ·split
   ·rw [rJ]; exact Gf h _ ht
   ·rw [jB]; exact CX _ _ _ ht
end Sb
end Go.Proofs.YtmklifheakemeaaGreat
