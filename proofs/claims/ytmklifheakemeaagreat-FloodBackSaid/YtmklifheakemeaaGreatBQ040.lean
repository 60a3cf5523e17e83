/-
  A broker that the st. Conditions as told.
-/
import Derived.Test.YtmklifheakemeaaGreatBQ030
import Derived.Test.YtmklifheakemeaaGreatBQ038
import Derived.Test.YtmklifheakemeaaGreatBQ039
import Derived.Test.YtmklifheakemeaaGreatBQ029
set_option maxRecDepth 100000
set_option maxHeartbeats 64000000
open _root_.Bool renaming true->Q,and_eq_true->aA,false->aF
open _root_.Decidable renaming byContradiction->V,not_not->aD
open _root_.List renaming getElem?_eq_getElem->J,mem_of_getElem?->L,mem_filter->O,mem_map->U,getElem?_map->X,singleton_append->Z,length_filter_le->ah,mem_cons_of_mem->aj,takeWhile_cons->ak,mem_cons->au,pairwise_cons->ay,length_cons->aB,map_cons->aC
open _root_.Nat renaming le_refl->D,le_succ_of_le->K,le_trans->Y
namespace Go.Proofs.YtmklifheakemeaaGreat
namespace Av
open Go.RowKit Go.Sort Rw YtmklifheakemeaaGreat.Nm Pr Bk
theorem um (x y:En):jw (fJ x) (fJ y)=Q↔zf x y<0:=by
 rw [uf];unfold jw fJ;simp only [Bool.or_eq_true,aA,pF]
theorem QV (x y:En) (h:fJ x≠fJ y):zf x y<0\/zf y x<0:=by
 rw [uf,uf];rcases pI x.tree y.tree with q|q|q
 ·exact Or.inl (Or.inl q)
 ·rcases pI x.sub y.sub with r|r|r
  ·exact Or.inl (Or.inr ⟨q,r⟩)
  ·exact absurd (Prod.ext q r) h
  ·exact Or.inr (Or.inr ⟨q.symm,r⟩)
 ·exact Or.inr (Or.inl q)
theorem DY:∀ (l:List En) (x:En),∀ y∈l.take (fB (l.map fJ) (fJ x)),zf y x<0
 | [],_,y,h=>by simp at h
 | a::l,x,y,h=>by
  unfold fB at h;by_cases ha:jw (fJ a) (fJ x)=Q
  ·simp only [aC,ak,ha,if_true,aB,List.take_succ_cons,au] at h;rcases h with rfl|h
   ·exact (um _ _).1 ha
   ·exact DY l x y h
  ·simp [ha] at h
theorem D5:∀ {l:List En} (_:l.Pairwise fun x y=>zf x y<0) (x:En) (_:∀ y∈l,fJ y≠fJ x),∀ y∈l.drop (fB (l.map fJ) (fJ x)),zf x y<0
 | [],_,_,_,y,h=>by simp at h
 | a::l,hr,x,hn,y,h=>by
  unfold fB at h;have hr':=ay.1 hr;by_cases ha:jw (fJ a) (fJ x)=Q
  ·simp only [aC,ak,ha,if_true,aB,List.drop_succ_cons] at h;exact D5 hr'.2 x (fun y hy=>hn y (aj _ hy)) y h
  ·simp [ha] at h;have hax:zf x a<0:=by
    rcases QV a x (hn a (by simp)) with q|q
    ·exact absurd ((um _ _).2 q) ha
    ·exact q
   rcases h with rfl|h
   ·exact hax
   ·exact KJ _ _ _ hax (hr'.1 y h)
theorem QW {l:List En} (hr:l.Pairwise fun x y=>zf x y<0) (x:En) (hn:∀ y∈l,fJ y≠fJ x):(fU l (fB (l.map fJ) (fJ x)) x).Pairwise fun x y=>zf x y<0:=by
 unfold fU;have h1:=hr.sublist (List.take_sublist (fB (l.map fJ) (fJ x)) l);have h2:=hr.sublist (List.drop_sublist (fB (l.map fJ) (fJ x)) l);have lo:=DY l x;have hi:=D5 hr x hn;rw [List.append_assoc,List.pairwise_append];refine⟨h1,?_,fun a ha b hb=>?_⟩
 ·rw [Z,ay];exact⟨fun b hb=>hi b hb,h2⟩
 ·rw [Z,au] at hb;rcases hb with rfl|hb
  ·exact lo a ha
  ·exact KJ _ _ _ (lo a ha) (hi b hb)
theorem D7:∀ (l:List fD) (x:fD),x ∉ l->fI l x=-1
 | [],_,_=>rfl
 | a::l,x,h=>by
  rw [fI,if_neg fun e=>h (by rw [e]; simp),D7 l x fun q=>h (aj _ q),if_pos rfl]
theorem Vz {κ:Type} [DecidableEq κ] {l:List κ} {x:κ} (h:iV l x=-1):x ∉ l:=by
 rcases ny l x with _|⟨k,h1,_⟩
 ·intro hm
  induction l with
  | nil=>simp at hm
  | cons a l ih =>
   rw [iV] at h
   split at h
   ·cases h
   ·rename_i hne
    split at h
    ·rename_i h2
     rcases au.1 hm with e|e
     ·exact hne e.symm
     ·exact ih h2 h2 e
    ·rename_i h2
     have:=ny l x;rcases this with q|⟨k,q,_⟩
     ·exact h2 q
     ·omega
 ·omega
theorem Lr {b:Br} (h:jl b) {l:List En} (hp:l.Pairwise fun x y=>zf x y<0) (ho:∀ e∈l,Ab b e=Q):jl { b with ent:=l } :=
 ⟨h.near,h.seen,h.dQ,hp,h.own,h.oks,fun e he=>ug (b:=b) rfl rfl (ho e he),h.Yo⟩
theorem VA {b:Br} (h:jl b) (e:En) (hc:jD b.near e.from_=Q) (hq:Wr.jB e.p=Q):jl (gQ b e).1:=by
 unfold gQ
 split
 ·exact h
 ·rename_i a ha
  split
  ·exact h
  ·rename_i h1
   split
   ·exact h
   ·rename_i h2
    split
    ·exact h
    ·rename_i h3
     have hid:a.id=e.tree:=by
      have hm:e.tree∈b.dQ.map Ad.id:=V fun q=>h1 (D7 _ _ q);obtain⟨k2,h5,h6⟩:=Dz _ _ hm;rw [h5,Int.toNat_natCast] at ha;rw [X,ha] at h6;exact Option.some.inj h6
     have hf:gL b.dQ e.tree=some a:=by
      rw [<- hid];exact oD h.dQ (L ha)
     have hins:=QW h.ent { e with up:=decide (a.par≠-1) && !fC b.ent e.tree e.p } fun y hy hk=>by
      have hm:fJ e∈b.ent.map fJ:=U.2 ⟨y,hy,hk⟩;have h9:iV (b.ent.map fJ) (fJ e)=-1:=aD.1 h2;exact Vz h9 hm
     refine Lr h hins fun q hq2=>?_;rcases (kC _ _ _ _).1 hq2 with rfl|hq2
     ·unfold Ab;simp only [hf];have h4:¬ (e.from_≠-1/\e.from_=a.par):=h3;rw [hc,hq];by_cases g1:e.from_=a.par
      ·have g2:a.par=-1:=by
        rw [<- g1];exact V fun q=>h4 ⟨q,g1⟩
       simp [g1,g2]
      ·by_cases g2:a.par=-1 <;> simp [g1,g2]
     ·exact h.Rh q hq2
theorem Cu (t:fD) (s:List En×List En) (k:Nat):(iK t s k).1.map fJ=s.1.map fJ:=by
 unfold iK
 split
 ·rfl
 ·rename_i e he
  split
  ·rw [List.map_set];refine List.ext_getElem? fun j=>?_;rw [List.getElem?_set]
   split
   ·rename_i hj
    subst hj
    split
    ·rw [X,he]
     rfl
    ·rename_i hl
     rw [List.getElem?_eq_none (by simpa using hl)]
   ·rfl
  ·rfl
theorem vL (t:fD) (m:List En):∀ k,(iW t m k).1.map fJ=m.map fJ
 | 0=>rfl
 | k+1=>by rw [mQ,Cu,vL t m k]
theorem QY {l m:List En} (h:l.map fJ=m.map fJ) (hp:m.Pairwise fun x y=>zf x y<0):l.Pairwise fun x y=>zf x y<0:=by
 have h1:∀ l:List En,(l.Pairwise fun x y=>zf x y<0)↔(l.map fJ).Pairwise fun x y=>jw x y=Q:=fun l=>by
  rw [List.pairwise_map];exact⟨fun q=>q.imp fun {a b} r=>(um a b).2 r,fun q=>q.imp fun {a b} r=>(um a b).1 r⟩
 rw [h1,h,<- h1];exact hp
theorem Fy {α:Type} (l:List α) (k:Nat):(cutAt l k).Sublist l:=by
 unfold cutAt
 conv=>rhs; rw [<- List.take_append_drop k l]
 exact (List.Sublist.refl _).append (List.drop_sublist_drop_left l (Nat.le_succ k))
theorem YS {b:Br} (h:jl b) (t x:fD) (f:Int):jl (takeB b t x f).1:=by
 unfold takeB
 split
 ·exact h
 ·rename_i e0 he0
  split
  ·exact h
  ·rename_i h1
   split
   ·exact h
   ·split
    ·exact Lr h (h.ent.sublist (Fy _ _)) fun q hq=>h.Rh q (rM hq)
    ·rename_i hup
     have ahZ:e0.up=Q:=by simpa using hup
     have ht:e0.tree=t:=by
      rcases ny (b.ent.map fJ) (t,x) with q|⟨k,q,r⟩
      ·exact absurd q h1
      ·rw [q,Int.toNat_natCast] at he0;rw [X,he0] at r;exact congrArg Prod.fst (Option.some.inj r)
     have ho0:=h.Rh e0 (L he0);refine Lr h (QY (vL _ _ _) (h.ent.sublist (Fy _ _))) ?_;refine (xY (fun e=>Ab b e=Q) (fun e he hr=>?_) (fun q hq=>h.Rh q (rM hq)) _).1;unfold Ab at hr ho0 ⊢;rw [ht] at ho0;show (match gL b.dQ e.tree with | none=>aF | some a=>_)=Q;rw [he] at hr ⊢;cases hfa:gL b.dQ t with
     | none=>rw [hfa] at hr; cases hr
     | some a =>
      rw [hfa] at hr ho0;simp only [aA] at hr ho0 ⊢;refine⟨hr.1,hr.2.1,?_,hr.2.2.2⟩;have h9:=ho0.2.2.1;rw [ahZ] at h9;exact h9
theorem NK {b:Br} (h:jl b) (t x:fD) (f:Int):jl (kH b t x f).1:=by
 rw [jg];exact YS h t x f
theorem A9 {b:Br} (h:jl b) (x:fD):∀ k,k<=b.dQ.length->jl (jR b x k).1
 | 0,_=>⟨h.near,h.seen,h.dQ,h.ent,h.own.sublist List.filter_sublist,h.oks,fun e he=>ug (b:=b) rfl rfl (h.Rh e he),fun o ho=>h.Yo o ((O.1 ho).1)⟩
 | k+1,hk=>by
  obtain⟨a,ha⟩:∃ a,b.dQ[k]?=some a:=⟨_,J hk⟩;rw [lM b x ha];exact NK (A9 h x k (by omega)) _ _ _
theorem QZ {b:Br} (h:jl b) (x:fD):jl (iR b x).1:=by
 unfold iR
 split
 ·exact h
 ·exact A9 h x _ (D _)
theorem rP {α:Type} {l:List α} {f:Br×List Ou->α->Br×List Ou} {s0:Br×List Ou} (P:Br->Prop) (h0:P s0.1) (hs:∀ s a,a∈l->P s.1->P (f s a).1):∀ k,k<=l.length->P (eu l f s0 k).1
 | 0,_=>h0
 | k+1,hk=>by
  obtain⟨a,ha⟩:∃ a,l[k]?=some a:=⟨_,J hk⟩;rw [jF f s0 ha];exact hs _ a (L ha) (rP P h0 hs k (by omega))
theorem step_ok {s:Br×List Ou} (h:jl s.1) (mt:Bool) (e:En) (t:Int) (hc:jD s.1.near e.from_=Q) (hq:Wr.jB e.p=Q):jl (fO s mt e t).1:=by
 unfold fO
 split
 ·exact h
 ·exact VA h e hc hq
theorem nX (l:List Int):jD l (-1)=Q:=by simp [jD]
theorem VB {b:Br} (h:jl b) (f:Int) (x:fD) (p:List C5) (hc:jD b.near f=Q) (hq:Wr.jB p=Q):jl (gy b f x p).1:=by
 have hl:=sN h ⟨x,p,f⟩ hc hq;unfold gy
 split
 ·exact hl
 ·refine rP jl hl (fun s o ho hs=>step_ok hs _ _ _ (nX _) ?_) _ (D _);rw [(iH b ⟨x,p,f⟩).2.2.2] at ho;exact h.Yo o ho
theorem D8 {l:List Ow} (hr:lq Ow.id l) {x:fD} (h:¬ (l[fM (l.map Ow.id) x]?).map Ow.id=some x):∀ y∈l,y.id≠x:=by
 intro y hy e;apply h;rw [<- jf];have ht:lV Ow.id l x=Q:=by
  rw [Qf hr];exact decide_eq_true (U.2 ⟨y,hy,e⟩)
 unfold lV at ht;cases hg:l[gM Ow.id l x]? with
 | none=>rw [hg] at ht; cases ht
 | some z =>
  rw [hg] at ht;rw [Option.map_some,of_decide_eq_true ht]
theorem YT {b:Br} (h:jl b) (x:fD) (p:List C5) (hq:Wr.jB p=Q):jl (lu b x p).1:=by
 unfold lu
 split
 ·exact h
 ·rename_i hn
  have hi:jl (ownIn b x p):=by
   have hr:lq Ow.id (fU b.own (fM (b.own.map Ow.id) x) ⟨x,p⟩):=by
    rw [<- jf];exact kF h.own ⟨x,p⟩ (D8 h.own hn)
   exact⟨h.near,h.seen,h.dQ,h.ent,hr,h.oks,fun e he=>ug (b:=b) rfl rfl (h.Rh e he),fun o ho=>by
    rcases (kC _ _ _ _).1 ho with rfl|ho
    ·exact hq
    ·exact h.Yo o ho⟩
  exact rP jl hi (fun s a _ hs=>step_ok hs _ _ _ (nX _) hq) _ (D _)
structure KI (i:Nat) (b:Br):Prop where
 ok:jl b
 pa:∀ a∈b.dQ,dZ a.p
 pe:∀ e∈b.ent,dZ e.p
 po:∀ o∈b.own,dZ o.p
 ln:b.near.length<=4
 ls:b.seen.length<=i
 la:b.dQ.length<=i
 lo:b.own.length<=i
 le:b.ent.length<=i * 12
theorem KI.kn {i:Nat} {b:Br} (h:KI i b):∀ e∈b.ent,e.tree∈b.dQ.map Ad.id:=fun e he=>by
 have h1:=h.ok.Rh e he;unfold Ab at h1;cases hf:gL b.dQ e.tree with
 | none=>rw [hf] at h1; cases h1
 | some a =>
  obtain⟨q1,q2⟩:=mO hf;exact U.2 ⟨a,q1,q2⟩
theorem KI.more {i:Nat} {b:Br} (h:KI i b):KI (i+1) b:=⟨h.ok,h.pa,h.pe,h.po,h.ln,K h.ls,K h.la,K h.lo,by have:=h.le; omega⟩
theorem D9 (b:Br) (a:Ad):∀ y∈(eF b a).1.dQ,y=a\/y∈b.dQ:=by
 unfold eF
 split
 ·exact fun y hy=>Or.inr hy
 ·exact fun y hy=>(kC _ _ _ _).1 hy
theorem KI.dQ {i:Nat} {b:Br} (h:KI i b) (hi:i<12) (f:Int) (x:fD) (p:List C5) (hc:jD b.near f=Q) (hq:Wr.jB p=Q) (hp:dZ p):KI (i+1) (gy b f x p).1:=by
 have hok:=VB h.ok f x p hc hq;obtain⟨m1,m2,m3,m4⟩:=iH b ⟨x,p,f⟩;obtain⟨n1,n2⟩:=xZ b ⟨x,p,f⟩;have lm:=D9 b ⟨x,p,f⟩;have hpa:∀ a∈(eF b ⟨x,p,f⟩).1.dQ,dZ a.p:=fun a ha=>by
  rcases lm a ha with rfl|ha
  ·exact hp
  ·exact h.pa a ha
 have h1:=h.ls;have h2:=h.la;have h3:=h.lo;have h4:=h.le;revert hok;unfold gy
 split
 ·intro hok;exact⟨hok,hpa,by rw [m3]; exact h.pe,by rw [m4]; exact h.po,by rw [m2]; exact h.ln,Y n2 (by omega),Y n1 (by omega),by rw [m4]; omega,by rw [m3]; omega⟩
 ·intro hok;obtain⟨q1,q2,_⟩:=lH (l:=(eF b ⟨x,p,f⟩).1.own) (b0:=(eF b ⟨x,p,f⟩).1) (o0:=eB b.near f 1 x (0,0) p) (fun o=>jh o.p p) (fun o=>mD x o) (fun _=>f) (fun e=>dZ e.p) (by rw [m3]; exact h.pe) (fun o ho _=>by rw [m4] at ho; exact h.po o ho) _ (D _);refine⟨hok,?_,q2,?_,?_,?_,?_,?_,?_⟩
  ·intro a ha;rw [show (eu _ (iG f x p) _ _).1.dQ=_ from q1.dQ] at ha;exact hpa a ha
  ·intro o ho;rw [show (eu _ (iG f x p) _ _).1.own=_ from q1.own,m4] at ho;exact h.po o ho
  ·rw [show (eu _ (iG f x p) _ _).1.near=_ from q1.near,m2];exact h.ln
  ·rw [show (eu _ (iG f x p) _ _).1.seen=_ from q1.seen];omega
  ·rw [show (eu _ (iG f x p) _ _).1.dQ=_ from q1.dQ];omega
  ·rw [show (eu _ (iG f x p) _ _).1.own=_ from q1.own,m4];omega
  ·have q3:=q1.len;rw [m3,m4] at q3;refine Y (show (eu _ (iG f x p) _ _).1.ent.length<=_ from by rw [m4]; exact q3) ?_;omega
theorem KI.subs {i:Nat} {b:Br} (h:KI i b) (hi:i<12) (x:fD) (p:List C5) (hq:Wr.jB p=Q) (hp:dZ p):KI (i+1) (lu b x p).1:=by
 have hok:=YT h.ok x p hq;have h1:=h.ls;have h2:=h.la;have h3:=h.lo;have h4:=h.le;revert hok;unfold lu
 split
 ·intro hok;exact h.more
 ·intro hok;obtain⟨q1,q2,_⟩:=lH (l:=b.dQ) (b0:=ownIn b x p) (o0:=[]) (fun a=>jh p a.p) (fun a=>nO x p a) (fun a=>a.par) (fun e=>dZ e.p) h.pe (fun o ho _=>hp) _ (D _);refine⟨hok,?_,q2,?_,?_,?_,?_,?_,?_⟩
  ·intro a ha;rw [show (eu _ (jS x p) _ _).1.dQ=_ from q1.dQ] at ha;exact h.pa a ha
  ·intro o ho;rw [show (eu _ (jS x p) _ _).1.own=_ from q1.own] at ho;rcases (kC _ _ _ _).1 ho with rfl|ho
   ·exact hp
   ·exact h.po o ho
  ·rw [show (eu _ (jS x p) _ _).1.near=_ from q1.near];exact h.ln
  ·rw [show (eu _ (jS x p) _ _).1.seen=_ from q1.seen];show b.seen.length<=_;omega
  ·rw [show (eu _ (jS x p) _ _).1.dQ=_ from q1.dQ];show b.dQ.length<=_;omega
  ·rw [show (eu _ (jS x p) _ _).1.own=_ from q1.own];show (fU _ _ _).length<=_;rw [Qs];omega
  ·have q3:=q1.len;have q4:(ownIn b x p).ent.length=b.ent.length:=rfl;refine Y (show (eu _ (jS x p) _ _).1.ent.length<=_ from q3) ?_;omega
theorem KI.acZ {i:Nat} {b:Br} (h:KI i b) (x:fD):KI (i+1) (iR b x).1:=by
 have hok:=QZ h.ok x;have h1:=h.ls;have h2:=h.la;have h3:=h.lo;have h4:=h.le;revert hok;unfold iR
 split
 ·intro hok;exact h.more
 ·intro hok;have q1:=(qN b x b.dQ.length (D _)).1;refine⟨hok,by rw [q1.dQ]; exact h.pa,rO b x (fun e=>dZ e.p) (fun _ h=>h) h.pe _ (D _),?_,by rw [q1.near]; exact h.ln,by rw [q1.seen]; omega,by rw [q1.dQ]; omega,?_,by have:=q1.len; omega⟩
  ·rw [q1.own];exact fun o ho=>h.po o ((O.1 ho).1)
  ·rw [q1.own];have h5:=ah (fun o:Ow=>decide (o.id≠x)) b.own;unfold vJ;omega
theorem KI.drop {i:Nat} {b:Br} (h:KI i b) (t x:fD) (f:Int):KI (i+1) (kH b t x f).1:=by
 have hok:=NK h.ok t x f;have h1:=h.ls;have h2:=h.la;have h3:=h.lo;have h4:=h.le;rw [jg] at hok ⊢;obtain⟨m1,m2,_,m4,m5⟩:=jQ b t x f;exact⟨hok,by rw [m1]; exact h.pa,(DT t x f (fun e=>dZ e.p) (fun _ _ h=>h) h.pe).1,by rw [m5]; exact h.po,by rw [m2]; exact h.ln,by rw [m4]; omega,by rw [m1]; omega,by rw [m5]; omega,by have:=(uj b t x f).1; omega⟩
theorem KI.afy {i:Nat} {b:Br} (h:KI i b) (f:Int) (t x:fD) (p:List C5) (hc:jD b.near f=Q) (hq:Wr.jB p=Q) (hp:dZ p):KI (i+1) (nK b f t x p).1:=by
 have hok:=VA h.ok ⟨t,x,p,f,aF⟩ hc hq;have h1:=h.ls;have h2:=h.la;have h3:=h.lo;have h4:=h.le;rw [qP];obtain⟨_,m2,m1,m4,m5⟩:=jq b ⟨t,x,p,f,aF⟩;exact⟨hok,by rw [m1]; exact h.pa,IJ (fun e=>dZ e.p) h.pe (fun _=>hp),by rw [m5]; exact h.po,by rw [m2]; exact h.ln,by rw [m4]; omega,by rw [m1]; omega,by rw [m5]; omega,by have:=IK b ⟨t,x,p,f,aF⟩; omega⟩
theorem KI.forget {i:Nat} {b:Br} (h:KI i b) (x:fD) (f:Int):KI (i+1) (gZ b x f).1:=by
 have hok:=Qr h.ok x f;rw [rH h.ok.dQ] at hok;have h1:=h.ls;have h2:=h.la;have h3:=h.lo;have h4:=h.le;revert hok;unfold gZ
 split
 ·exact fun _=>h.more
 ·split
  ·exact fun _=>h.more
  ·split
   ·intro hok;exact⟨hok,fun a ha=>h.pa a (rM ha),fun e he=>h.pe e ((O.1 he).1),h.po,h.ln,K h1,by have h5:=(Fy b.dQ (fI (b.dQ.map Ad.id) x).toNat).length_le; show (cutAt _ _).length<=_; omega,K h3,by have h5:=ah (fun e:En=>decide (e.tree≠x)) b.ent; show (List.filter _ _).length<=_; omega⟩
   ·exact fun _=>h.more
theorem vM (l:List Int) (n:Int):jD l (wE l n)=Q:=by
 unfold wE;cases h:l[(Wi.within n 0 l.length).toNat]? with
 | none=>exact nX l
 | some z =>
  have:=L h;simp [jD,this]
abbrev KS (b:Br):Prop:=(∀ e∈b.ent,e.sub.1<=4)/\∀ o∈b.own,o.id.1<=4
theorem VD {b:Br} (h:KS b) (e:En) (he:e.sub.1<=4):KS (gQ b e).1:=by
 unfold gQ
 split
 ·exact h
 ·split
  ·exact h
  ·split
   ·exact h
   ·split
    ·exact h
    ·refine⟨fun z hz=>?_,h.2⟩;rcases (kC _ _ _ _).1 hz with rfl|hz
     ·exact he
     ·exact h.1 z hz
theorem Jg {s:Br×List Ou} (h:KS s.1) (mt:Bool) (e:En) (t:Int) (he:e.sub.1<=4):KS (fO s mt e t).1:=by
 unfold fO
 split
 ·exact h
 ·exact VD h e he
theorem Fz {b:Br} (h:KS b) (f:Int) (x:fD) (p:List C5):KS (gy b f x p).1:=by
 have hs:=iH b ⟨x,p,f⟩;have hl:KS (eF b ⟨x,p,f⟩).1:=⟨by rw [hs.2.2.1]; exact h.1,by rw [hs.2.2.2]; exact h.2⟩;unfold gy
 split
 ·exact hl
 ·refine rP KS hl (fun s o ho hs2=>Jg hs2 _ _ _ ?_) _ (D _);rw [hs.2.2.2] at ho;exact h.2 o ho
theorem YU {b:Br} (h:KS b) (x:fD) (p:List C5) (hx:x.1<=4):KS (lu b x p).1:=by
 unfold lu
 split
 ·exact h
 ·have hi:KS (ownIn b x p):=⟨h.1,fun o ho=>by
   rcases (kC _ _ _ _).1 ho with rfl|ho
   ·exact hx
   ·exact h.2 o ho⟩
  exact rP KS hi (fun s a _ hs=>Jg hs _ _ _ hx) _ (D _)
theorem NM {b:Br} (h:KS b) (t x:fD) (f:Int):KS (takeB b t x f).1:=by
 unfold takeB
 split
 ·exact h
 ·split
  ·exact h
  ·split
   ·exact h
   ·split
    ·exact⟨fun e he=>h.1 e (rM he),h.2⟩
    ·refine⟨fun e he=>?_,h.2⟩;have hk:fJ e∈(iW t (cutAt b.ent (iV (b.ent.map fJ) (t,x)).toNat) (cutAt b.ent (iV (b.ent.map fJ) (t,x)).toNat).length).1.map fJ:=U.2 ⟨e,he,rfl⟩;rw [vL] at hk;obtain⟨z,hz,hk2⟩:=U.1 hk;have h3:=h.1 z (rM hz);rw [<- show z.sub=e.sub from congrArg Prod.snd hk2];exact h3
theorem Ea {b:Br} (h:KS b) (x:fD):∀ k,k<=b.dQ.length->KS (jR b x k).1
 | 0,_=>⟨h.1,fun o ho=>h.2 o ((O.1 ho).1)⟩
 | k+1,hk=>by
  obtain⟨a,ha⟩:∃ a,b.dQ[k]?=some a:=⟨_,J hk⟩;rw [lM b x ha];show KS (kH _ _ _ _).1;rw [jg];exact NM (Ea h x k (by omega)) _ _ _
theorem Q0 {b:Br} (h:KS b) (x:fD):KS (iR b x).1:=by
 unfold iR
 split
 ·exact h
 ·exact Ea h x _ (D _)
theorem zk {b:Br} (h:KS b) (f mk:Int) (t x:fD) (p:List C5) (hx:x.1<=4):KS (jX b f mk t x p).1:=by
 unfold jX
 split
 ·exact Fz h f t p
 ·split
  ·show KS (gZ b t f).1;unfold gZ
   split
   ·exact h
   ·split
    ·exact h
    ·split
     ·exact⟨fun e he=>h.1 e ((O.1 he).1),h.2⟩
     ·exact h
  ·split
   ·rw [qP]; exact VD h _ hx
   ·rw [jg]; exact NM h _ _ _
abbrev SnK (b:Br):Prop:=(∀ x∈b.seen,x.1<=2)/\KS b
end Av
namespace Sb
open Go.RowKit Go.Sort Rw YtmklifheakemeaaGreat.Nm Pr Bk Av
theorem Ls {s:Br×List Ou} (h:jl s.1) (ht:iE s.1) (mt:Bool) (e:En) (t:Int):iE (fO s mt e t).1:=by
 unfold fO
 split
 ·exact ht
 ·exact DC h e ht
theorem Ba {α:Type} {l:List α} (mt:α->Bool) (e:α->En) (t:α->Int) {s0:Br×List Ou} (h:jl s0.1) (ht:iE s0.1) (hc:∀ s:Br×List Ou,∀ a∈l,jl s.1->jl (fO s (mt a) (e a) (t a)).1) (k:Nat) (hk:k<=l.length):iE (eu l (fun s a=>fO s (mt a) (e a) (t a)) s0 k).1 :=
 (rP (fun b=>jl b/\iE b) ⟨h,ht⟩ (fun s a ha hs=>⟨hc s a ha hs.1,Ls hs.1 hs.2 _ _ _⟩) k hk).2
theorem uo {b:Br} (h:jl b) (ht:iE b) (f:Int) (x:fD) (p:List C5) (hc:jD b.near f=Q) (hq:Wr.jB p=Q):iE (gy b f x p).1:=by
 have hl:=sN h ⟨x,p,f⟩ hc hq;have hlt:=Im h ⟨x,p,f⟩ ht;unfold gy
 split
 ·exact hlt
 ·exact Ba (s0:=((eF b ⟨x,p,f⟩).1,eB b.near f 1 x (0,0) p)) (fun o=>jh o.p p) (fun o=>mD x o) (fun _=>f) hl hlt (fun s o ho hs=>step_ok hs _ _ _ (nX _) (hl.Yo o ho)) _ (D _)
theorem Lu {b:Br} (h:jl b) (ht:iE b) (x:fD) (p:List C5) (hq:Wr.jB p=Q):iE (lu b x p).1:=by
 unfold lu
 split
 ·exact ht
 ·rename_i hn
  have hi:jl (ownIn b x p):=by
   have hr:lq Ow.id (fU b.own (fM (b.own.map Ow.id) x) ⟨x,p⟩):=by
    rw [<- jf];exact kF h.own ⟨x,p⟩ (D8 h.own hn)
   exact⟨h.near,h.seen,h.dQ,h.ent,hr,h.oks,fun e he=>ug (b:=b) rfl rfl (h.Rh e he),fun o ho=>by
    rcases (kC _ _ _ _).1 ho with rfl|ho
    ·exact hq
    ·exact h.Yo o ho⟩
  exact Ba (s0:=(ownIn b x p,[])) (fun a=>jh p a.p) (fun a=>nO x p a) (fun a=>a.par) hi (show iE (ownIn b x p) from ht) (fun s a _ hs=>step_ok hs _ _ _ (nX _) hq) _ (D _)
theorem wT {b:Br} (ht:iE b) (x:fD):∀ k,k<=b.dQ.length->iE (jR b x k).1
 | 0,_=>ht
 | k+1,hk=>by
  obtain⟨a,ha⟩:∃ a,b.dQ[k]?=some a:=⟨_,J hk⟩;rw [lM b x ha];show iE (kH _ _ _ _).1;rw [jg];exact Ak _ _ _ (wT ht x k (by omega))
theorem FJ {b:Br} (ht:iE b) (x:fD):iE (iR b x).1:=by
 unfold iR
 split
 ·exact ht
 ·exact wT ht x _ (D _)
theorem pX {b:Br} (h:jl b) (ht:iE b) (f mk:Int) (t x:fD) (p:List C5) (hc:jD b.near f=Q) (hq:Wr.jB p=Q):iE (jX b f mk t x p).1:=by
 unfold jX
 split
 ·exact uo h ht f t p hc hq
 ·split
  ·show iE (gZ b t f).1;rw [<- rH h.dQ];exact Fe t f ht
  ·split
   ·rw [qP]; exact DC h _ ht
   ·rw [jg]; exact Ak _ _ _ ht
end Sb
end Go.Proofs.YtmklifheakemeaaGreat
