/-
  A broker that the st. Conditions as told.
-/
import Derived.Test.YtmklifheakemeaaGreatfe039
import Derived.Test.YtmklifheakemeaaGreatfe038
import Derived.Test.YtmklifheakemeaaGreatfe041
set_option maxRecDepth 100000
set_option maxHeartbeats 64000000
open _root_.Bool renaming true->Q,and_eq_true->aA,false->aF
open _root_.Decidable renaming byContradiction->V,not_not->aD
open _root_.List renaming getElem?_eq_getElem->J,mem_of_getElem?->L,mem_filter->O,mem_map->U,getElem?_map->X,singleton_append->Z,length_filter_le->ah,mem_cons_of_mem->aj,takeWhile_cons->ak,mem_cons->au,pairwise_cons->ay,length_cons->aB,map_cons->aC
open _root_.Nat renaming le_refl->D,le_succ_of_le->K,le_trans->Y
namespace Go.Proofs.YtmklifheakemeaaGreat
namespace Av
open Go.RowKit Go.Sort Rw YtmklifheakemeaaGreat.Nm Pr Bk
theorem uT (x y:En):jB (fB x) (fB y)=Q↔Ab x y<0:=by
 rw [uR];unfold jB fB;simp only [Bool.or_eq_true,aA,oh]
theorem QW (x y:En) (h:fB x≠fB y):Ab x y<0\/Ab y x<0:=by
 rw [uR,uR];rcases pY x.tree y.tree with q|q|q
 ·exact Or.inl (Or.inl q)
 ·rcases pY x.sub y.sub with r|r|r
  ·exact Or.inl (Or.inr ⟨q,r⟩)
  ·exact absurd (Prod.ext q r) h
  ·exact Or.inr (Or.inr ⟨q.symm,r⟩)
 ·exact Or.inr (Or.inl q)
theorem EP:∀ (l:List En) (x:En),∀ y∈l.take (eT (l.map fB) (fB x)),Ab y x<0
 | [],_,y,h=>by simp at h
 | a::l,x,y,h=>by
  unfold eT at h;by_cases ha:jB (fB a) (fB x)=Q
  ·simp only [aC,ak,ha,if_true,aB,List.take_succ_cons,au] at h;rcases h with rfl|h
   ·exact (uT _ _).1 ha
   ·exact EP l x y h
  ·simp [ha] at h
theorem EZ:∀ {l:List En} (_:l.Pairwise fun x y=>Ab x y<0) (x:En) (_:∀ y∈l,fB y≠fB x),∀ y∈l.drop (eT (l.map fB) (fB x)),Ab x y<0
 | [],_,_,_,y,h=>by simp at h
 | a::l,hr,x,hn,y,h=>by
  unfold eT at h;have hr':=ay.1 hr;by_cases ha:jB (fB a) (fB x)=Q
  ·simp only [aC,ak,ha,if_true,aB,List.drop_succ_cons] at h;exact EZ hr'.2 x (fun y hy=>hn y (aj _ hy)) y h
  ·simp [ha] at h;have hax:Ab x a<0:=by
    rcases QW a x (hn a (by simp)) with q|q
    ·exact absurd ((uT _ _).2 q) ha
    ·exact q
   rcases h with rfl|h
   ·exact hax
   ·exact Ls _ _ _ hax (hr'.1 y h)
theorem QY {l:List En} (hr:l.Pairwise fun x y=>Ab x y<0) (x:En) (hn:∀ y∈l,fB y≠fB x):(gG l (eT (l.map fB) (fB x)) x).Pairwise fun x y=>Ab x y<0:=by
 unfold gG;have h1:=hr.sublist (List.take_sublist (eT (l.map fB) (fB x)) l);have h2:=hr.sublist (List.drop_sublist (eT (l.map fB) (fB x)) l);have lo:=EP l x;have hi:=EZ hr x hn;rw [List.append_assoc,List.pairwise_append];refine⟨h1,?_,fun a ha b hb=>?_⟩
 ·rw [Z,ay];exact⟨fun b hb=>hi b hb,h2⟩
 ·rw [Z,au] at hb;rcases hb with rfl|hb
  ·exact lo a ha
  ·exact Ls _ _ _ (lo a ha) (hi b hb)
theorem E5:∀ (l:List fC) (x:fC),x ∉ l->fJ l x=-1
 | [],_,_=>rfl
 | a::l,x,h=>by
  rw [fJ,if_neg fun e=>h (by rw [e]; simp),E5 l x fun q=>h (aj _ q),if_pos rfl]
theorem VN {κ:Type} [DecidableEq κ] {l:List κ} {x:κ} (h:iA l x=-1):x ∉ l:=by
 rcases lQ l x with _|⟨k,h1,_⟩
 ·intro hm
  induction l with
  | nil=>simp at hm
  | cons a l ih =>
   rw [iA] at h
   split at h
   ·cases h
   ·rename_i hne
    split at h
    ·rename_i h2
     rcases au.1 hm with e|e
     ·exact hne e.symm
     ·exact ih h2 h2 e
    ·rename_i h2
     have:=lQ l x;rcases this with q|⟨k,q,_⟩
     ·exact h2 q
     ·omega
 ·omega
theorem Ml {b:Br} (h:jc b) {l:List En} (hp:l.Pairwise fun x y=>Ab x y<0) (ho:∀ e∈l,Bh b e=Q):jc { b with ent:=l } :=
 ⟨h.near,h.seen,h.dQ,hp,h.own,h.oks,fun e he=>uS (b:=b) rfl rfl (ho e he),h.YV⟩
theorem VP {b:Br} (h:jc b) (e:En) (hc:kW b.near e.from_=Q) (hq:Wr.jP e.p=Q):jc (ig b e).1:=by
 unfold ig
 split
 ·exact h
 ·rename_i a ha
  split
  ·exact h
  ·rename_i h1
   split
   ·exact h
   ·rename_i h2
    split
    ·exact h
    ·rename_i h3
     have hid:a.id=e.tree:=by
      have hm:e.tree∈b.dQ.map Ad.id:=V fun q=>h1 (E5 _ _ q);obtain⟨k2,h5,h6⟩:=Ej _ _ hm;rw [h5,Int.toNat_natCast] at ha;rw [X,ha] at h6;exact Option.some.inj h6
     have hf:gD b.dQ e.tree=some a:=by
      rw [<- hid];exact o7 h.dQ (L ha)
     have hins:=QY h.ent { e with up:=decide (a.par≠-1) && !fD b.ent e.tree e.p } fun y hy hk=>by
      have hm:fB e∈b.ent.map fB:=U.2 ⟨y,hy,hk⟩;have h9:iA (b.ent.map fB) (fB e)=-1:=aD.1 h2;exact VN h9 hm
     refine Ml h hins fun q hq2=>?_;rcases (kD _ _ _ _).1 hq2 with rfl|hq2
     ·unfold Bh;simp only [hf];have h4:¬ (e.from_≠-1/\e.from_=a.par):=h3;rw [hc,hq];by_cases g1:e.from_=a.par
      ·have g2:a.par=-1:=by
        rw [<- g1];exact V fun q=>h4 ⟨q,g1⟩
       simp [g1,g2]
      ·by_cases g2:a.par=-1 <;> simp [g1,g2]
     ·exact h.Rn q hq2
theorem Dm (t:fC) (s:List En×List En) (k:Nat):(iJ t s k).1.map fB=s.1.map fB:=by
 unfold iJ
 split
 ·rfl
 ·rename_i e he
  split
  ·rw [List.map_set];refine List.ext_getElem? fun j=>?_;rw [List.getElem?_set]
   split
   ·rename_i hj
    subst hj
    split
    ·rw [X,he]
     rfl
    ·rename_i hl
     rw [List.getElem?_eq_none (by simpa using hl)]
   ·rfl
  ·rfl
theorem wu (t:fC) (m:List En):∀ k,(iV t m k).1.map fB=m.map fB
 | 0=>rfl
 | k+1=>by rw [nk,Dm,wu t m k]
theorem QZ {l m:List En} (h:l.map fB=m.map fB) (hp:m.Pairwise fun x y=>Ab x y<0):l.Pairwise fun x y=>Ab x y<0:=by
 have h1:∀ l:List En,(l.Pairwise fun x y=>Ab x y<0)↔(l.map fB).Pairwise fun x y=>jB x y=Q:=fun l=>by
  rw [List.pairwise_map];exact⟨fun q=>q.imp fun {a b} r=>(uT a b).2 r,fun q=>q.imp fun {a b} r=>(uT a b).1 r⟩
 rw [h1,h,<- h1];exact hp
theorem Gv {α:Type} (l:List α) (k:Nat):(cutAt l k).Sublist l:=by
 unfold cutAt
 conv=>rhs; rw [<- List.take_append_drop k l]
 exact (List.Sublist.refl _).append (List.drop_sublist_drop_left l (Nat.le_succ k))
theorem Zp {b:Br} (h:jc b) (t x:fC) (f:Int):jc (takeB b t x f).1:=by
 unfold takeB
 split
 ·exact h
 ·rename_i e0 he0
  split
  ·exact h
  ·rename_i h1
   split
   ·exact h
   ·split
    ·exact Ml h (h.ent.sublist (Gv _ _)) fun q hq=>h.Rn q (r9 hq)
    ·rename_i hup
     have ahu:e0.up=Q:=by simpa using hup
     have ht:e0.tree=t:=by
      rcases lQ (b.ent.map fB) (t,x) with q|⟨k,q,r⟩
      ·exact absurd q h1
      ·rw [q,Int.toNat_natCast] at he0;rw [X,he0] at r;exact congrArg Prod.fst (Option.some.inj r)
     have ho0:=h.Rn e0 (L he0);refine Ml h (QZ (wu _ _ _) (h.ent.sublist (Gv _ _))) ?_;refine (yP (fun e=>Bh b e=Q) (fun e he hr=>?_) (fun q hq=>h.Rn q (r9 hq)) _).1;unfold Bh at hr ho0 ⊢;rw [ht] at ho0;show (match gD b.dQ e.tree with | none=>aF | some a=>_)=Q;rw [he] at hr ⊢;cases hfa:gD b.dQ t with
     | none=>rw [hfa] at hr; cases hr
     | some a =>
      rw [hfa] at hr ho0;simp only [aA] at hr ho0 ⊢;refine⟨hr.1,hr.2.1,?_,hr.2.2.2⟩;have h9:=ho0.2.2.1;rw [ahu] at h9;exact h9
theorem OJ {b:Br} (h:jc b) (t x:fC) (f:Int):jc (kI b t x f).1:=by
 rw [jh];exact Zp h t x f
theorem CF {b:Br} (h:jc b) (x:fC):∀ k,k<=b.dQ.length->jc (jS b x k).1
 | 0,_=>⟨h.near,h.seen,h.dQ,h.ent,h.own.sublist List.filter_sublist,h.oks,fun e he=>uS (b:=b) rfl rfl (h.Rn e he),fun o ho=>h.YV o ((O.1 ho).1)⟩
 | k+1,hk=>by
  obtain⟨a,ha⟩:∃ a,b.dQ[k]?=some a:=⟨_,J hk⟩;rw [lX b x ha];exact OJ (CF h x k (by omega)) _ _ _
theorem Q0 {b:Br} (h:jc b) (x:fC):jc (iP b x).1:=by
 unfold iP
 split
 ·exact h
 ·exact CF h x _ (D _)
theorem su {α:Type} {l:List α} {f:Br×List Ou->α->Br×List Ou} {s0:Br×List Ou} (P:Br->Prop) (h0:P s0.1) (hs:∀ s a,a∈l->P s.1->P (f s a).1):∀ k,k<=l.length->P (eu l f s0 k).1
 | 0,_=>h0
 | k+1,hk=>by
  obtain⟨a,ha⟩:∃ a,l[k]?=some a:=⟨_,J hk⟩;rw [lq f s0 ha];exact hs _ a (L ha) (su P h0 hs k (by omega))
theorem step_ok {s:Br×List Ou} (h:jc s.1) (mt:Bool) (e:En) (t:Int) (hc:kW s.1.near e.from_=Q) (hq:Wr.jP e.p=Q):jc (gu s mt e t).1:=by
 unfold gu
 split
 ·exact h
 ·exact VP h e hc hq
theorem oI (l:List Int):kW l (-1)=Q:=by simp [kW]
theorem VQ {b:Br} (h:jc b) (f:Int) (x:fC) (p:List C5) (hc:kW b.near f=Q) (hq:Wr.jP p=Q):jc (kK b f x p).1:=by
 have hl:=Bu h ⟨x,p,f⟩ hc hq;unfold kK
 split
 ·exact hl
 ·refine su jc hl (fun s o ho hs=>step_ok hs _ _ _ (oI _) ?_) _ (D _);rw [(ji b ⟨x,p,f⟩).2.2.2] at ho;exact h.YV o ho
theorem E8 {l:List Ow} (hr:lF Ow.id l) {x:fC} (h:¬ (l[fT (l.map Ow.id) x]?).map Ow.id=some x):∀ y∈l,y.id≠x:=by
 intro y hy e;apply h;rw [<- jg];have ht:mq Ow.id l x=Q:=by
  rw [Qe hr];exact decide_eq_true (U.2 ⟨y,hy,e⟩)
 unfold mq at ht;cases hg:l[gN Ow.id l x]? with
 | none=>rw [hg] at ht; cases ht
 | some z =>
  rw [hg] at ht;rw [Option.map_some,of_decide_eq_true ht]
theorem Zq {b:Br} (h:jc b) (x:fC) (p:List C5) (hq:Wr.jP p=Q):jc (lG b x p).1:=by
 unfold lG
 split
 ·exact h
 ·rename_i hn
  have hi:jc (ownIn b x p):=by
   have hr:lF Ow.id (gG b.own (fT (b.own.map Ow.id) x) ⟨x,p⟩):=by
    rw [<- jg];exact kG h.own ⟨x,p⟩ (E8 h.own hn)
   exact⟨h.near,h.seen,h.dQ,h.ent,hr,h.oks,fun e he=>uS (b:=b) rfl rfl (h.Rn e he),fun o ho=>by
    rcases (kD _ _ _ _).1 ho with rfl|ho
    ·exact hq
    ·exact h.YV o ho⟩
  exact su jc hi (fun s a _ hs=>step_ok hs _ _ _ (oI _) hq) _ (D _)
structure KI (i:Nat) (b:Br):Prop where
 ok:jc b
 pa:∀ a∈b.dQ,dZ a.p
 pe:∀ e∈b.ent,dZ e.p
 po:∀ o∈b.own,dZ o.p
 ln:b.near.length<=4
 ls:b.seen.length<=i
 la:b.dQ.length<=i
 lo:b.own.length<=i
 le:b.ent.length<=i * 12
theorem KI.kn {i:Nat} {b:Br} (h:KI i b):∀ e∈b.ent,e.tree∈b.dQ.map Ad.id:=fun e he=>by
 have h1:=h.ok.Rn e he;unfold Bh at h1;cases hf:gD b.dQ e.tree with
 | none=>rw [hf] at h1; cases h1
 | some a =>
  obtain⟨q1,q2⟩:=ny hf;exact U.2 ⟨a,q1,q2⟩
theorem KI.more {i:Nat} {b:Br} (h:KI i b):KI (i+1) b:=⟨h.ok,h.pa,h.pe,h.po,h.ln,K h.ls,K h.la,K h.lo,by have:=h.le; omega⟩
theorem Fa (b:Br) (a:Ad):∀ y∈(eX b a).1.dQ,y=a\/y∈b.dQ:=by
 unfold eX
 split
 ·exact fun y hy=>Or.inr hy
 ·exact fun y hy=>(kD _ _ _ _).1 hy
theorem KI.dQ {i:Nat} {b:Br} (h:KI i b) (hi:i<12) (f:Int) (x:fC) (p:List C5) (hc:kW b.near f=Q) (hq:Wr.jP p=Q) (hp:dZ p):KI (i+1) (kK b f x p).1:=by
 have hok:=VQ h.ok f x p hc hq;obtain⟨m1,m2,m3,m4⟩:=ji b ⟨x,p,f⟩;obtain⟨n1,n2⟩:=yR b ⟨x,p,f⟩;have lm:=Fa b ⟨x,p,f⟩;have hpa:∀ a∈(eX b ⟨x,p,f⟩).1.dQ,dZ a.p:=fun a ha=>by
  rcases lm a ha with rfl|ha
  ·exact hp
  ·exact h.pa a ha
 have h1:=h.ls;have h2:=h.la;have h3:=h.lo;have h4:=h.le;revert hok;unfold kK
 split
 ·intro hok;exact⟨hok,hpa,by rw [m3]; exact h.pe,by rw [m4]; exact h.po,by rw [m2]; exact h.ln,Y n2 (by omega),Y n1 (by omega),by rw [m4]; omega,by rw [m3]; omega⟩
 ·intro hok;obtain⟨q1,q2,_⟩:=lT (l:=(eX b ⟨x,p,f⟩).1.own) (b0:=(eX b ⟨x,p,f⟩).1) (o0:=fG b.near f 1 x (0,0) p) (fun o=>jr o.p p) (fun o=>ou x o) (fun _=>f) (fun e=>dZ e.p) (by rw [m3]; exact h.pe) (fun o ho _=>by rw [m4] at ho; exact h.po o ho) _ (D _);refine⟨hok,?_,q2,?_,?_,?_,?_,?_,?_⟩
  ·intro a ha;rw [show (eu _ (iT f x p) _ _).1.dQ=_ from q1.dQ] at ha;exact hpa a ha
  ·intro o ho;rw [show (eu _ (iT f x p) _ _).1.own=_ from q1.own,m4] at ho;exact h.po o ho
  ·rw [show (eu _ (iT f x p) _ _).1.near=_ from q1.near,m2];exact h.ln
  ·rw [show (eu _ (iT f x p) _ _).1.seen=_ from q1.seen];omega
  ·rw [show (eu _ (iT f x p) _ _).1.dQ=_ from q1.dQ];omega
  ·rw [show (eu _ (iT f x p) _ _).1.own=_ from q1.own,m4];omega
  ·have q3:=q1.len;rw [m3,m4] at q3;refine Y (show (eu _ (iT f x p) _ _).1.ent.length<=_ from by rw [m4]; exact q3) ?_;omega
theorem KI.subs {i:Nat} {b:Br} (h:KI i b) (hi:i<12) (x:fC) (p:List C5) (hq:Wr.jP p=Q) (hp:dZ p):KI (i+1) (lG b x p).1:=by
 have hok:=Zq h.ok x p hq;have h1:=h.ls;have h2:=h.la;have h3:=h.lo;have h4:=h.le;revert hok;unfold lG
 split
 ·intro hok;exact h.more
 ·intro hok;obtain⟨q1,q2,_⟩:=lT (l:=b.dQ) (b0:=ownIn b x p) (o0:=[]) (fun a=>jr p a.p) (fun a=>nX x p a) (fun a=>a.par) (fun e=>dZ e.p) h.pe (fun o ho _=>hp) _ (D _);refine⟨hok,?_,q2,?_,?_,?_,?_,?_,?_⟩
  ·intro a ha;rw [show (eu _ (jT x p) _ _).1.dQ=_ from q1.dQ] at ha;exact h.pa a ha
  ·intro o ho;rw [show (eu _ (jT x p) _ _).1.own=_ from q1.own] at ho;rcases (kD _ _ _ _).1 ho with rfl|ho
   ·exact hp
   ·exact h.po o ho
  ·rw [show (eu _ (jT x p) _ _).1.near=_ from q1.near];exact h.ln
  ·rw [show (eu _ (jT x p) _ _).1.seen=_ from q1.seen];show b.seen.length<=_;omega
  ·rw [show (eu _ (jT x p) _ _).1.dQ=_ from q1.dQ];show b.dQ.length<=_;omega
  ·rw [show (eu _ (jT x p) _ _).1.own=_ from q1.own];show (gG _ _ _).length<=_;rw [QD];omega
  ·have q3:=q1.len;have q4:(ownIn b x p).ent.length=b.ent.length:=rfl;refine Y (show (eu _ (jT x p) _ _).1.ent.length<=_ from q3) ?_;omega
theorem KI.ads {i:Nat} {b:Br} (h:KI i b) (x:fC):KI (i+1) (iP b x).1:=by
 have hok:=Q0 h.ok x;have h1:=h.ls;have h2:=h.la;have h3:=h.lo;have h4:=h.le;revert hok;unfold iP
 split
 ·intro hok;exact h.more
 ·intro hok;have q1:=(qY b x b.dQ.length (D _)).1;refine⟨hok,by rw [q1.dQ]; exact h.pa,sj b x (fun e=>dZ e.p) (fun _ h=>h) h.pe _ (D _),?_,by rw [q1.near]; exact h.ln,by rw [q1.seen]; omega,by rw [q1.dQ]; omega,?_,by have:=q1.len; omega⟩
  ·rw [q1.own];exact fun o ho=>h.po o ((O.1 ho).1)
  ·rw [q1.own];have h5:=ah (fun o:Ow=>decide (o.id≠x)) b.own;unfold wm;omega
theorem KI.drop {i:Nat} {b:Br} (h:KI i b) (t x:fC) (f:Int):KI (i+1) (kI b t x f).1:=by
 have hok:=OJ h.ok t x f;have h1:=h.ls;have h2:=h.la;have h3:=h.lo;have h4:=h.le;rw [jh] at hok ⊢;obtain⟨m1,m2,_,m4,m5⟩:=jQ b t x f;exact⟨hok,by rw [m1]; exact h.pa,(Ew t x f (fun e=>dZ e.p) (fun _ _ h=>h) h.pe).1,by rw [m5]; exact h.po,by rw [m2]; exact h.ln,by rw [m4]; omega,by rw [m1]; omega,by rw [m5]; omega,by have:=(uQ b t x f).1; omega⟩
theorem KI.afv {i:Nat} {b:Br} (h:KI i b) (f:Int) (t x:fC) (p:List C5) (hc:kW b.near f=Q) (hq:Wr.jP p=Q) (hp:dZ p):KI (i+1) (nU b f t x p).1:=by
 have hok:=VP h.ok ⟨t,x,p,f,aF⟩ hc hq;have h1:=h.ls;have h2:=h.la;have h3:=h.lo;have h4:=h.le;rw [ru];obtain⟨_,m2,m1,m4,m5⟩:=jw b ⟨t,x,p,f,aF⟩;exact⟨hok,by rw [m1]; exact h.pa,Jk (fun e=>dZ e.p) h.pe (fun _=>hp),by rw [m5]; exact h.po,by rw [m2]; exact h.ln,by rw [m4]; omega,by rw [m1]; omega,by rw [m5]; omega,by have:=Jl b ⟨t,x,p,f,aF⟩; omega⟩
theorem KI.forget {i:Nat} {b:Br} (h:KI i b) (x:fC) (f:Int):KI (i+1) (gY b x f).1:=by
 have hok:=El h.ok x f;rw [oU h.ok.dQ] at hok;have h1:=h.ls;have h2:=h.la;have h3:=h.lo;have h4:=h.le;revert hok;unfold gY
 split
 ·exact fun _=>h.more
 ·split
  ·exact fun _=>h.more
  ·split
   ·intro hok;exact⟨hok,fun a ha=>h.pa a (r9 ha),fun e he=>h.pe e ((O.1 he).1),h.po,h.ln,K h1,by have h5:=(Gv b.dQ (fJ (b.dQ.map Ad.id) x).toNat).length_le; show (cutAt _ _).length<=_; omega,K h3,by have h5:=ah (fun e:En=>decide (e.tree≠x)) b.ent; show (List.filter _ _).length<=_; omega⟩
   ·exact fun _=>h.more
theorem Mq (l:List Int) (n:Int):kW l (Ck l n)=Q:=by
 unfold Ck;cases h:l[(Wi.within n 0 l.length).toNat]? with
 | none=>exact oI l
 | some z =>
  have:=L h;simp [kW,this]
abbrev KS (b:Br):Prop:=(∀ e∈b.ent,e.sub.1<=4)/\∀ o∈b.own,o.id.1<=4
theorem VT {b:Br} (h:KS b) (e:En) (he:e.sub.1<=4):KS (ig b e).1:=by
 unfold ig
 split
 ·exact h
 ·split
  ·exact h
  ·split
   ·exact h
   ·split
    ·exact h
    ·refine⟨fun z hz=>?_,h.2⟩;rcases (kD _ _ _ _).1 hz with rfl|hz
     ·exact he
     ·exact h.1 z hz
theorem JK {s:Br×List Ou} (h:KS s.1) (mt:Bool) (e:En) (t:Int) (he:e.sub.1<=4):KS (gu s mt e t).1:=by
 unfold gu
 split
 ·exact h
 ·exact VT h e he
theorem Gw {b:Br} (h:KS b) (f:Int) (x:fC) (p:List C5):KS (kK b f x p).1:=by
 have hs:=ji b ⟨x,p,f⟩;have hl:KS (eX b ⟨x,p,f⟩).1:=⟨by rw [hs.2.2.1]; exact h.1,by rw [hs.2.2.2]; exact h.2⟩;unfold kK
 split
 ·exact hl
 ·refine su KS hl (fun s o ho hs2=>JK hs2 _ _ _ ?_) _ (D _);rw [hs.2.2.2] at ho;exact h.2 o ho
theorem Zr {b:Br} (h:KS b) (x:fC) (p:List C5) (hx:x.1<=4):KS (lG b x p).1:=by
 unfold lG
 split
 ·exact h
 ·have hi:KS (ownIn b x p):=⟨h.1,fun o ho=>by
   rcases (kD _ _ _ _).1 ho with rfl|ho
   ·exact hx
   ·exact h.2 o ho⟩
  exact su KS hi (fun s a _ hs=>JK hs _ _ _ hx) _ (D _)
theorem OM {b:Br} (h:KS b) (t x:fC) (f:Int):KS (takeB b t x f).1:=by
 unfold takeB
 split
 ·exact h
 ·split
  ·exact h
  ·split
   ·exact h
   ·split
    ·exact⟨fun e he=>h.1 e (r9 he),h.2⟩
    ·refine⟨fun e he=>?_,h.2⟩;have hk:fB e∈(iV t (cutAt b.ent (iA (b.ent.map fB) (t,x)).toNat) (cutAt b.ent (iA (b.ent.map fB) (t,x)).toNat).length).1.map fB:=U.2 ⟨e,he,rfl⟩;rw [wu] at hk;obtain⟨z,hz,hk2⟩:=U.1 hk;have h3:=h.1 z (r9 hz);rw [<- show z.sub=e.sub from congrArg Prod.snd hk2];exact h3
theorem Fb {b:Br} (h:KS b) (x:fC):∀ k,k<=b.dQ.length->KS (jS b x k).1
 | 0,_=>⟨h.1,fun o ho=>h.2 o ((O.1 ho).1)⟩
 | k+1,hk=>by
  obtain⟨a,ha⟩:∃ a,b.dQ[k]?=some a:=⟨_,J hk⟩;rw [lX b x ha];show KS (kI _ _ _ _).1;rw [jh];exact OM (Fb h x k (by omega)) _ _ _
theorem Q6 {b:Br} (h:KS b) (x:fC):KS (iP b x).1:=by
 unfold iP
 split
 ·exact h
 ·exact Fb h x _ (D _)
theorem Af {b:Br} (h:KS b) (f mk:Int) (t x:fC) (p:List C5) (hx:x.1<=4):KS (jZ b f mk t x p).1:=by
 unfold jZ
 split
 ·exact Gw h f t p
 ·split
  ·show KS (gY b t f).1;unfold gY
   split
   ·exact h
   ·split
    ·exact h
    ·split
     ·exact⟨fun e he=>h.1 e ((O.1 he).1),h.2⟩
     ·exact h
  ·split
   ·rw [ru]; exact VT h _ hx
   ·rw [jh]; exact OM h _ _ _
abbrev SnK (b:Br):Prop:=(∀ x∈b.seen,x.1<=2)/\KS b
end Av
namespace Sb
open Go.RowKit Go.Sort Rw YtmklifheakemeaaGreat.Nm Pr Bk Av
theorem Mr {s:Br×List Ou} (h:jc s.1) (ht:iE s.1) (mt:Bool) (e:En) (t:Int):iE (gu s mt e t).1:=by
 unfold gu
 split
 ·exact ht
 ·exact Ep h e ht
theorem CG {α:Type} {l:List α} (mt:α->Bool) (e:α->En) (t:α->Int) {s0:Br×List Ou} (h:jc s0.1) (ht:iE s0.1) (hc:∀ s:Br×List Ou,∀ a∈l,jc s.1->jc (gu s (mt a) (e a) (t a)).1) (k:Nat) (hk:k<=l.length):iE (eu l (fun s a=>gu s (mt a) (e a) (t a)) s0 k).1 :=
 (su (fun b=>jc b/\iE b) ⟨h,ht⟩ (fun s a ha hs=>⟨hc s a ha hs.1,Mr hs.1 hs.2 _ _ _⟩) k hk).2
theorem uU {b:Br} (h:jc b) (ht:iE b) (f:Int) (x:fC) (p:List C5) (hc:kW b.near f=Q) (hq:Wr.jP p=Q):iE (kK b f x p).1:=by
 have hl:=Bu h ⟨x,p,f⟩ hc hq;have hlt:=Jc h ⟨x,p,f⟩ ht;unfold kK
 split
 ·exact hlt
 ·exact CG (s0:=((eX b ⟨x,p,f⟩).1,fG b.near f 1 x (0,0) p)) (fun o=>jr o.p p) (fun o=>ou x o) (fun _=>f) hl hlt (fun s o ho hs=>step_ok hs _ _ _ (oI _) (hl.YV o ho)) _ (D _)
theorem Ms {b:Br} (h:jc b) (ht:iE b) (x:fC) (p:List C5) (hq:Wr.jP p=Q):iE (lG b x p).1:=by
 unfold lG
 split
 ·exact ht
 ·rename_i hn
  have hi:jc (ownIn b x p):=by
   have hr:lF Ow.id (gG b.own (fT (b.own.map Ow.id) x) ⟨x,p⟩):=by
    rw [<- jg];exact kG h.own ⟨x,p⟩ (E8 h.own hn)
   exact⟨h.near,h.seen,h.dQ,h.ent,hr,h.oks,fun e he=>uS (b:=b) rfl rfl (h.Rn e he),fun o ho=>by
    rcases (kD _ _ _ _).1 ho with rfl|ho
    ·exact hq
    ·exact h.YV o ho⟩
  exact CG (s0:=(ownIn b x p,[])) (fun a=>jr p a.p) (fun a=>nX x p a) (fun a=>a.par) hi (show iE (ownIn b x p) from ht) (fun s a _ hs=>step_ok hs _ _ _ (oI _) hq) _ (D _)
theorem xJ {b:Br} (ht:iE b) (x:fC):∀ k,k<=b.dQ.length->iE (jS b x k).1
 | 0,_=>ht
 | k+1,hk=>by
  obtain⟨a,ha⟩:∃ a,b.dQ[k]?=some a:=⟨_,J hk⟩;rw [lX b x ha];show iE (kI _ _ _ _).1;rw [jh];exact Ca _ _ _ (xJ ht x k (by omega))
theorem Gx {b:Br} (ht:iE b) (x:fC):iE (iP b x).1:=by
 unfold iP
 split
 ·exact ht
 ·exact xJ ht x _ (D _)
theorem qm {b:Br} (h:jc b) (ht:iE b) (f mk:Int) (t x:fC) (p:List C5) (hc:kW b.near f=Q) (hq:Wr.jP p=Q):iE (jZ b f mk t x p).1:=by
 unfold jZ
 split
 ·exact uU h ht f t p hc hq
 ·split
  ·show iE (gY b t f).1;rw [<- oU h.dQ];exact Gl t f ht
  ·split
   ·rw [ru]; exact Ep h _ ht
   ·rw [jh]; exact Ca _ _ _ ht
end Sb
end Go.Proofs.YtmklifheakemeaaGreat
