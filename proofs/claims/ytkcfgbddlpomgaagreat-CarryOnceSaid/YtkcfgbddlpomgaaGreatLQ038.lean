/-
  A broker that the st. Conditions as told.
-/
import Derived.Test.YtkcfgbddlpomgaaGreatLQ036
import Derived.Test.YtkcfgbddlpomgaaGreatLQ033
import Derived.Test.YtkcfgbddlpomgaaGreatLQ037
set_option maxRecDepth 100000
set_option maxHeartbeats 64000000
open _root_.Bool renaming and_eq_true->ay,true->aI,not_eq_true'->aR,false->aU
open _root_.Go renaming World->aJ,Addr->aT,Value->aV
open Go.IntKind renaming i64->U
open Go.Lib renaming hid->J
open Go.Obj renaming cells->aF
open Go.Value renaming slice->D,int->Q
open _root_.List renaming mem_filter->X,length_filter_le->Y,mem_map->Z,getElem?_eq_getElem->ah,map_append->aj,filter_append->aA,getElem?_cons_zero->aB,getElem?_cons_succ->aC,getElem?_toArray->aD,filter_sublist->aG,any_eq_true->aK,filter_cons_of_pos->aL,filter_cons_of_neg->aM,length_map->aN,mem_of_getElem?->aO,mem_range->aQ,range->aW
open List.Pairwise renaming nil->au
open _root_.Nat renaming le_trans->O,le_refl->V,le_succ_of_le->ak,zero_le->aS
open _root_.Option renaming none->K,some->aH
open _root_.Or renaming inl->aP
namespace Go.Proofs.YtkcfgbddlpomgaaGreat
namespace Av
open Go.RowKit Go.Sort Rw YtkcfgbddlpomgaaGreat.Nm Pr Bk
theorem Ma {b:Br} (h:jB b) (t x:eG) (f:Int):jB (jL b t x f).1:=by
 rw [iU];exact WT h t x f
theorem zU {b:Br} (h:jB b) (x:eG):∀ k,k<=b.dM.length->jB (jq b x k).1
 | 0,_=>⟨h.near,h.seen,h.dM,h.ent,h.own.sublist aG,h.oks,fun e he=>sO (b:=b) rfl rfl (h.Ld e he),fun o ho=>h.Yp o ((X.1 ho).1)⟩
 | k+1,hk=>by
  obtain⟨a,ha⟩:∃ a,b.dM[k]?=aH a:=⟨_,ah hk⟩;rw [kU b x ha];exact Ma (zU h x k (by omega)) _ _ _
theorem O6 {b:Br} (h:jB b) (x:eG):jB (iE b x).1:=by
 unfold iE
 split
 ·exact h
 ·exact zU h x _ (V _)
theorem sQ {α:Type} {l:List α} {f:Br×List Ou->α->Br×List Ou} {s0:Br×List Ou} (P:Br->Prop) (h0:P s0.1) (hs:∀ s a,a∈l->P s.1->P (f s a).1):∀ k,k<=l.length->P (eT l f s0 k).1
 | 0,_=>h0
 | k+1,hk=>by
  obtain⟨a,ha⟩:∃ a,l[k]?=aH a:=⟨_,ah hk⟩;rw [nY f s0 ha];exact hs _ a (aO ha) (sQ P h0 hs k (by omega))
theorem step_ok {s:Br×List Ou} (h:jB s.1) (mt:Bool) (e:En) (t:Int) (hc:jQ s.1.near e.from_=aI) (hq:Wr.iV e.p=aI):jB (gF s mt e t).1:=by
 unfold gF
 split
 ·exact h
 ·exact SV h e hc hq
theorem qA (l:List Int):jQ l (-1)=aI:=by simp [jQ]
theorem abk {b:Br} (h:jB b) (f:Int) (x:eG) (p:List C5) (hc:jQ b.near f=aI) (hq:Wr.iV p=aI):jB (kF b f x p).1:=by
 have hl:=Gy h ⟨x,p,f⟩ hc hq;unfold kF
 split
 ·exact hl
 ·refine sQ jB hl (fun s o ho hs=>step_ok hs _ _ _ (qA _) ?_) _ (V _);rw [(jJ b ⟨x,p,f⟩).2.2.2] at ho;exact h.Yp o ho
theorem C8 {l:List Ow} (hr:j6 Ow.id l) {x:eG} (h:¬ (l[fF (l.map Ow.id) x]?).map Ow.id=aH x):∀ y∈l,y.id≠x:=by
 intro y hy e;apply h;rw [<- iT];have ht:lG Ow.id l x=aI:=by
  rw [NQ hr];exact decide_eq_true (Z.2 ⟨y,hy,e⟩)
 unfold lG at ht;cases hg:l[gu Ow.id l x]? with
 | none=>rw [hg] at ht; cases ht
 | some z =>
  rw [hg] at ht;rw [Option.map_some,of_decide_eq_true ht]
theorem WZ {b:Br} (h:jB b) (x:eG) (p:List C5) (hq:Wr.iV p=aI):jB (ko b x p).1:=by
 unfold ko
 split
 ·exact h
 ·rename_i hn
  have hi:jB (ownIn b x p):=by
   have hr:j6 Ow.id (fM b.own (fF (b.own.map Ow.id) x) ⟨x,p⟩):=by
    rw [<- iT];exact jT h.own ⟨x,p⟩ (C8 h.own hn)
   exact⟨h.near,h.seen,h.dM,h.ent,hr,h.oks,fun e he=>sO (b:=b) rfl rfl (h.Ld e he),fun o ho=>by
    rcases (jI _ _ _ _).1 ho with rfl|ho
    ·exact hq
    ·exact h.Yp o ho⟩
  exact sQ jB hi (fun s a _ hs=>step_ok hs _ _ _ (qA _) hq) _ (V _)
structure KI (i:Nat) (b:Br):Prop where
 ok:jB b
 pa:∀ a∈b.dM,dQ a.p
 pe:∀ e∈b.ent,dQ e.p
 po:∀ o∈b.own,dQ o.p
 ln:b.near.length<=4
 ls:b.seen.length<=i
 la:b.dM.length<=i
 lo:b.own.length<=i
 le:b.ent.length<=i * 12
theorem KI.kn {i:Nat} {b:Br} (h:KI i b):∀ e∈b.ent,e.tree∈b.dM.map Ad.id:=fun e he=>by
 have h1:=h.ok.Ld e he;unfold uS at h1;cases hf:fP b.dM e.tree with
 | none=>rw [hf] at h1; cases h1
 | some a =>
  obtain⟨q1,q2⟩:=nW hf;exact Z.2 ⟨a,q1,q2⟩
theorem KI.more {i:Nat} {b:Br} (h:KI i b):KI (i+1) b:=⟨h.ok,h.pa,h.pe,h.po,h.ln,ak h.ls,ak h.la,ak h.lo,by have:=h.le; omega⟩
theorem O7 (b:Br) (a:Ad):∀ y∈(fC b a).1.dM,y=a\/y∈b.dM:=by
 unfold fC
 split
 ·exact fun y hy=>Or.inr hy
 ·exact fun y hy=>(jI _ _ _ _).1 hy
theorem KI.dM {i:Nat} {b:Br} (h:KI i b) (hi:i<12) (f:Int) (x:eG) (p:List C5) (hc:jQ b.near f=aI) (hq:Wr.iV p=aI) (hp:dQ p):KI (i+1) (kF b f x p).1:=by
 have hok:=abk h.ok f x p hc hq;obtain⟨m1,m2,m3,m4⟩:=jJ b ⟨x,p,f⟩;obtain⟨n1,n2⟩:=CK b ⟨x,p,f⟩;have lm:=O7 b ⟨x,p,f⟩;have hpa:∀ a∈(fC b ⟨x,p,f⟩).1.dM,dQ a.p:=fun a ha=>by
  rcases lm a ha with rfl|ha
  ·exact hp
  ·exact h.pa a ha
 have h1:=h.ls;have h2:=h.la;have h3:=h.lo;have h4:=h.le;revert hok;unfold kF
 split
 ·intro hok;exact⟨hok,hpa,by rw [m3]; exact h.pe,by rw [m4]; exact h.po,by rw [m2]; exact h.ln,O n2 (by omega),O n1 (by omega),by rw [m4]; omega,by rw [m3]; omega⟩
 ·intro hok;obtain⟨q1,q2,_⟩:=lH (l:=(fC b ⟨x,p,f⟩).1.own) (b0:=(fC b ⟨x,p,f⟩).1) (o0:=fZ b.near f 1 x (0,0) p) (fun o=>jY o.p p) (fun o=>zB x o) (fun _=>f) (fun e=>dQ e.p) (by rw [m3]; exact h.pe) (fun o ho _=>by rw [m4] at ho; exact h.po o ho) _ (V _);refine⟨hok,?_,q2,?_,?_,?_,?_,?_,?_⟩
  ·intro a ha;rw [show (eT _ (mP f x p) _ _).1.dM=_ from q1.dM] at ha;exact hpa a ha
  ·intro o ho;rw [show (eT _ (mP f x p) _ _).1.own=_ from q1.own,m4] at ho;exact h.po o ho
  ·rw [show (eT _ (mP f x p) _ _).1.near=_ from q1.near,m2];exact h.ln
  ·rw [show (eT _ (mP f x p) _ _).1.seen=_ from q1.seen];omega
  ·rw [show (eT _ (mP f x p) _ _).1.dM=_ from q1.dM];omega
  ·rw [show (eT _ (mP f x p) _ _).1.own=_ from q1.own,m4];omega
  ·have q3:=q1.len;rw [m3,m4] at q3;refine O (show (eT _ (mP f x p) _ _).1.ent.length<=_ from by rw [m4]; exact q3) ?_;omega
theorem KI.subs {i:Nat} {b:Br} (h:KI i b) (hi:i<12) (x:eG) (p:List C5) (hq:Wr.iV p=aI) (hp:dQ p):KI (i+1) (ko b x p).1:=by
 have hok:=WZ h.ok x p hq;have h1:=h.ls;have h2:=h.la;have h3:=h.lo;have h4:=h.le;revert hok;unfold ko
 split
 ·intro hok;exact h.more
 ·intro hok;obtain⟨q1,q2,_⟩:=lH (l:=b.dM) (b0:=ownIn b x p) (o0:=[]) (fun a=>jY p a.p) (fun a=>mZ x p a) (fun a=>a.par) (fun e=>dQ e.p) h.pe (fun o ho _=>hp) _ (V _);refine⟨hok,?_,q2,?_,?_,?_,?_,?_,?_⟩
  ·intro a ha;rw [show (eT _ (jv x p) _ _).1.dM=_ from q1.dM] at ha;exact h.pa a ha
  ·intro o ho;rw [show (eT _ (jv x p) _ _).1.own=_ from q1.own] at ho;rcases (jI _ _ _ _).1 ho with rfl|ho
   ·exact hp
   ·exact h.po o ho
  ·rw [show (eT _ (jv x p) _ _).1.near=_ from q1.near];exact h.ln
  ·rw [show (eT _ (jv x p) _ _).1.seen=_ from q1.seen];show b.seen.length<=_;omega
  ·rw [show (eT _ (jv x p) _ _).1.dM=_ from q1.dM];show b.dM.length<=_;omega
  ·rw [show (eT _ (jv x p) _ _).1.own=_ from q1.own];show (fM _ _ _).length<=_;rw [Oo];omega
  ·have q3:=q1.len;have q4:(ownIn b x p).ent.length=b.ent.length:=rfl;refine O (show (eT _ (jv x p) _ _).1.ent.length<=_ from q3) ?_;omega
theorem KI.abl {i:Nat} {b:Br} (h:KI i b) (x:eG):KI (i+1) (iE b x).1:=by
 have hok:=O6 h.ok x;have h1:=h.ls;have h2:=h.la;have h3:=h.lo;have h4:=h.le;revert hok;unfold iE
 split
 ·intro hok;exact h.more
 ·intro hok;have q1:=(pY b x b.dM.length (V _)).1;refine⟨hok,by rw [q1.dM]; exact h.pa,qO b x (fun e=>dQ e.p) (fun _ h=>h) h.pe _ (V _),?_,by rw [q1.near]; exact h.ln,by rw [q1.seen]; omega,by rw [q1.dM]; omega,?_,by have:=q1.len; omega⟩
  ·rw [q1.own];exact fun o ho=>h.po o ((X.1 ho).1)
  ·rw [q1.own];have h5:=Y (fun o:Ow=>decide (o.id≠x)) b.own;unfold ug;omega
theorem KI.drop {i:Nat} {b:Br} (h:KI i b) (t x:eG) (f:Int):KI (i+1) (jL b t x f).1:=by
 have hok:=Ma h.ok t x f;have h1:=h.ls;have h2:=h.la;have h3:=h.lo;have h4:=h.le;rw [iU] at hok ⊢;obtain⟨m1,m2,_,m4,m5⟩:=jo b t x f;exact⟨hok,by rw [m1]; exact h.pa,(Cm t x f (fun e=>dQ e.p) (fun _ _ h=>h) h.pe).1,by rw [m5]; exact h.po,by rw [m2]; exact h.ln,by rw [m4]; omega,by rw [m1]; omega,by rw [m5]; omega,by have:=(sI b t x f).1; omega⟩
theorem KI.adA {i:Nat} {b:Br} (h:KI i b) (f:Int) (t x:eG) (p:List C5) (hc:jQ b.near f=aI) (hq:Wr.iV p=aI) (hp:dQ p):KI (i+1) (mW b f t x p).1:=by
 have hok:=SV h.ok ⟨t,x,p,f,aU⟩ hc hq;have h1:=h.ls;have h2:=h.la;have h3:=h.lo;have h4:=h.le;rw [qh];obtain⟨_,m2,m1,m4,m5⟩:=jm b ⟨t,x,p,f,aU⟩;exact⟨hok,by rw [m1]; exact h.pa,GK (fun e=>dQ e.p) h.pe (fun _=>hp),by rw [m5]; exact h.po,by rw [m2]; exact h.ln,by rw [m4]; omega,by rw [m1]; omega,by rw [m5]; omega,by have:=GQ b ⟨t,x,p,f,aU⟩; omega⟩
theorem KI.forget {i:Nat} {b:Br} (h:KI i b) (x:eG) (f:Int):KI (i+1) (gJ b x f).1:=by
 have hok:=Og h.ok x f;rw [zl h.ok.dM] at hok;have h1:=h.ls;have h2:=h.la;have h3:=h.lo;have h4:=h.le;revert hok;unfold gJ
 split
 ·exact fun _=>h.more
 ·split
  ·exact fun _=>h.more
  ·split
   ·intro hok;exact⟨hok,fun a ha=>h.pa a (qN ha),fun e he=>h.pe e ((X.1 he).1),h.po,h.ln,ak h1,by have h5:=(Ei b.dM (fD (b.dM.map Ad.id) x).toNat).length_le; show (cutAt _ _).length<=_; omega,ak h3,by have h5:=Y (fun e:En=>decide (e.tree≠x)) b.ent; show (List.filter _ _).length<=_; omega⟩
   ·exact fun _=>h.more
theorem JV (l:List Int) (n:Int):jQ l (Cu l n)=aI:=by
 unfold Cu;cases h:l[(Wi.within n 0 l.length).toNat]? with
 | none=>exact qA l
 | some z =>
  have:=aO h;simp [jQ,this]
def K4 (n:Int):Prop:=0<=n/\n<=4
abbrev KS (b:Br):Prop:=(∀ e∈b.ent,K4 e.sub.1)/\∀ o∈b.own,K4 o.id.1
theorem TG {b:Br} (h:KS b) (e:En) (he:K4 e.sub.1):KS (gP b e).1:=by
 unfold gP
 split
 ·exact h
 ·split
  ·exact h
  ·split
   ·exact h
   ·split
    ·exact h
    ·refine⟨fun z hz=>?_,h.2⟩;rcases (jI _ _ _ _).1 hz with rfl|hz
     ·exact he
     ·exact h.1 z hz
theorem Ib {s:Br×List Ou} (h:KS s.1) (mt:Bool) (e:En) (t:Int) (he:K4 e.sub.1):KS (gF s mt e t).1:=by
 unfold gF
 split
 ·exact h
 ·exact TG h e he
theorem Eo {b:Br} (h:KS b) (f:Int) (x:eG) (p:List C5):KS (kF b f x p).1:=by
 have hs:=jJ b ⟨x,p,f⟩;have hl:KS (fC b ⟨x,p,f⟩).1:=⟨by rw [hs.2.2.1]; exact h.1,by rw [hs.2.2.2]; exact h.2⟩;unfold kF
 split
 ·exact hl
 ·refine sQ KS hl (fun s o ho hs2=>Ib hs2 _ _ _ ?_) _ (V _);rw [hs.2.2.2] at ho;exact h.2 o ho
theorem Xa {b:Br} (h:KS b) (x:eG) (p:List C5) (hx:K4 x.1):KS (ko b x p).1:=by
 unfold ko
 split
 ·exact h
 ·have hi:KS (ownIn b x p):=⟨h.1,fun o ho=>by
   rcases (jI _ _ _ _).1 ho with rfl|ho
   ·exact hx
   ·exact h.2 o ho⟩
  exact sQ KS hi (fun s a _ hs=>Ib hs _ _ _ hx) _ (V _)
theorem Mc {b:Br} (h:KS b) (t x:eG) (f:Int):KS (takeB b t x f).1:=by
 unfold takeB
 split
 ·exact h
 ·split
  ·exact h
  ·split
   ·exact h
   ·split
    ·exact⟨fun e he=>h.1 e (qN he),h.2⟩
    ·refine⟨fun e he=>?_,h.2⟩;have hk:fu e∈(iL t (cutAt b.ent (iK (b.ent.map fu) (t,x)).toNat) (cutAt b.ent (iK (b.ent.map fu) (t,x)).toNat).length).1.map fu:=Z.2 ⟨e,he,rfl⟩;rw [uq] at hk;obtain⟨z,hz,hk2⟩:=Z.1 hk;have h3:=h.1 z (qN hz);rw [<- show z.sub=e.sub from congrArg Prod.snd hk2];exact h3
theorem C9 {b:Br} (h:KS b) (x:eG):∀ k,k<=b.dM.length->KS (jq b x k).1
 | 0,_=>⟨h.1,fun o ho=>h.2 o ((X.1 ho).1)⟩
 | k+1,hk=>by
  obtain⟨a,ha⟩:∃ a,b.dM[k]?=aH a:=⟨_,ah hk⟩;rw [kU b x ha];show KS (jL _ _ _ _).1;rw [iU];exact Mc (C9 h x k (by omega)) _ _ _
theorem O8 {b:Br} (h:KS b) (x:eG):KS (iE b x).1:=by
 unfold iE
 split
 ·exact h
 ·exact C9 h x _ (V _)
theorem xZ {b:Br} (h:KS b) (f mk:Int) (t x:eG) (p:List C5) (hx:K4 x.1):KS (jE b f mk t x p).1:=by
 unfold jE
 split
 ·exact Eo h f t p
 ·split
  ·show KS (gJ b t f).1;unfold gJ
   split
   ·exact h
   ·split
    ·exact h
    ·split
     ·exact⟨fun e he=>h.1 e ((X.1 he).1),h.2⟩
     ·exact h
  ·split
   ·rw [qh]; exact TG h _ hx
   ·rw [iU]; exact Mc h _ _ _
abbrev SnK (b:Br):Prop:=(∀ x∈b.seen,x.1<=2)/\KS b
end Av
namespace Sb
open Go.RowKit Go.Sort Rw YtkcfgbddlpomgaaGreat.Nm Pr Bk Av
theorem JW {s:Br×List Ou} (h:jB s.1) (ht:gY s.1) (mt:Bool) (e:En) (t:Int):gY (gF s mt e t).1:=by
 unfold gF
 split
 ·exact ht
 ·exact CG h e ht
theorem zV {α:Type} {l:List α} (mt:α->Bool) (e:α->En) (t:α->Int) {s0:Br×List Ou} (h:jB s0.1) (ht:gY s0.1) (hc:∀ s:Br×List Ou,∀ a∈l,jB s.1->jB (gF s (mt a) (e a) (t a)).1) (k:Nat) (hk:k<=l.length):gY (eT l (fun s a=>gF s (mt a) (e a) (t a)) s0 k).1 :=
 (sQ (fun b=>jB b/\gY b) ⟨h,ht⟩ (fun s a ha hs=>⟨hc s a ha hs.1,JW hs.1 hs.2 _ _ _⟩) k hk).2
theorem sS {b:Br} (h:jB b) (ht:gY b) (f:Int) (x:eG) (p:List C5) (hc:jQ b.near f=aI) (hq:Wr.iV p=aI):gY (kF b f x p).1:=by
 have hl:=Gy h ⟨x,p,f⟩ hc hq;have hlt:=GD h ⟨x,p,f⟩ ht;unfold kF
 split
 ·exact hlt
 ·exact zV (s0:=((fC b ⟨x,p,f⟩).1,fZ b.near f 1 x (0,0) p)) (fun o=>jY o.p p) (fun o=>zB x o) (fun _=>f) hl hlt (fun s o ho hs=>step_ok hs _ _ _ (qA _) (hl.Yp o ho)) _ (V _)
theorem JX {b:Br} (h:jB b) (ht:gY b) (x:eG) (p:List C5) (hq:Wr.iV p=aI):gY (ko b x p).1:=by
 unfold ko
 split
 ·exact ht
 ·rename_i hn
  have hi:jB (ownIn b x p):=by
   have hr:j6 Ow.id (fM b.own (fF (b.own.map Ow.id) x) ⟨x,p⟩):=by
    rw [<- iT];exact jT h.own ⟨x,p⟩ (C8 h.own hn)
   exact⟨h.near,h.seen,h.dM,h.ent,hr,h.oks,fun e he=>sO (b:=b) rfl rfl (h.Ld e he),fun o ho=>by
    rcases (jI _ _ _ _).1 ho with rfl|ho
    ·exact hq
    ·exact h.Yp o ho⟩
  exact zV (s0:=(ownIn b x p,[])) (fun a=>jY p a.p) (fun a=>mZ x p a) (fun a=>a.par) hi (show gY (ownIn b x p) from ht) (fun s a _ hs=>step_ok hs _ _ _ (qA _) hq) _ (V _)
theorem vk {b:Br} (ht:gY b) (x:eG):∀ k,k<=b.dM.length->gY (jq b x k).1
 | 0,_=>ht
 | k+1,hk=>by
  obtain⟨a,ha⟩:∃ a,b.dM[k]?=aH a:=⟨_,ah hk⟩;rw [kU b x ha];show gY (jL _ _ _ _).1;rw [iU];exact zy _ _ _ (vk ht x k (by omega))
theorem Ep {b:Br} (ht:gY b) (x:eG):gY (iE b x).1:=by
 unfold iE
 split
 ·exact ht
 ·exact vk ht x _ (V _)
theorem oO {b:Br} (h:jB b) (ht:gY b) (f mk:Int) (t x:eG) (p:List C5) (hc:jQ b.near f=aI) (hq:Wr.iV p=aI):gY (jE b f mk t x p).1:=by
 unfold jE
 split
 ·exact sS h ht f t p hc hq
 ·split
  ·show gY (gJ b t f).1;rw [<- zl h.dM];exact Ee t f ht
  ·split
   ·rw [qh]; exact CG h _ ht
   ·rw [iU]; exact zy _ _ _ ht
end Sb
namespace Av
open Go.RowKit Go.Sort Rw YtkcfgbddlpomgaaGreat.Nm Pr Bk
def KM (t:eG) (b c:Br):Prop:=c.me=b.me/\c.near=b.near/\∀ x∈c.seen,x∈b.seen\/x=t
theorem JY (b:Br) (a:Ad):∀ y∈(fC b a).1.seen,y∈b.seen\/y=a.id:=by
 unfold fC
 split
 ·exact fun y hy=>aP hy
 ·exact fun y hy=>((jI _ _ _ _).1 hy).symm
theorem Er (b:Br) (f:Int) (x:eG) (p:List C5):KM x b (kF b f x p).1:=by
 obtain⟨m1,m2,_,_⟩:=jJ b ⟨x,p,f⟩;have m5:=JY b ⟨x,p,f⟩;unfold kF
 split
 ·exact⟨m1,m2,m5⟩
 ·have q:=(lH (l:=(fC b ⟨x,p,f⟩).1.own) (b0:=(fC b ⟨x,p,f⟩).1) (o0:=fZ b.near f 1 x (0,0) p) (fun o=>jY o.p p) (fun o=>zB x o) (fun _=>f) (fun _=>True) (fun _ _=>trivial) (fun _ _ _=>trivial) _ (V _)).1;exact⟨(show (eT _ (mP f x p) _ _).1.me=_ from q.me).trans m1,(show (eT _ (mP f x p) _ _).1.near=_ from q.near).trans m2,by rw [show (eT _ (mP f x p) _ _).1.seen=_ from q.seen]; exact m5⟩
theorem Xb (t:eG) (b:Br) (x:eG) (p:List C5):KM t b (ko b x p).1:=by
 unfold ko
 split
 ·exact⟨rfl,rfl,fun _ h=>aP h⟩
 ·have q:=(lH (l:=b.dM) (b0:=ownIn b x p) (o0:=[]) (fun a=>jY p a.p) (fun a=>mZ x p a) (fun a=>a.par) (fun _=>True) (fun _ _=>trivial) (fun _ _ _=>trivial) _ (V _)).1;exact⟨(show (eT _ (jv x p) _ _).1.me=_ from q.me),(show (eT _ (jv x p) _ _).1.near=_ from q.near),by rw [show (eT _ (jv x p) _ _).1.seen=_ from q.seen]; exact fun _ h=>aP h⟩
theorem O9 (t:eG) (b:Br) (x:eG):KM t b (iE b x).1:=by
 unfold iE
 split
 ·exact⟨rfl,rfl,fun _ h=>aP h⟩
 ·have q:=(pY b x _ (V _)).1;exact⟨q.me,q.near,by rw [q.seen]; exact fun _ h=>aP h⟩
theorem Xc (b:Br) (t x:eG) (f:Int):KM t b (jL b t x f).1:=by
 rw [iU];exact⟨(jo b t x f).2.2.1,(jo b t x f).2.1,by rw [(jo b t x f).2.2.2.1]; exact fun _ h=>aP h⟩
theorem TJ (b:Br) (f:Int) (t x:eG) (p:List C5):KM t b (mW b f t x p).1:=by
 rw [qh];exact⟨(jm b _).1,(jm b _).2.1,by rw [(jm b _).2.2.2.1]; exact fun _ h=>aP h⟩
theorem Ic (b:Br) (x:eG) (f:Int):(gJ b x f).1.seen=b.seen:=by
 unfold gJ
 split
 ·rfl
 ·split
  ·rfl
  ·split <;> rfl
theorem yg (b:Br) (f mk:Int) (t x:eG) (p:List C5):KM t b (jE b f mk t x p).1:=by
 unfold jE
 split
 ·exact Er b f t p
 ·split
  ·exact⟨(jZ b t f).2,(jZ b t f).1,by rw [show (zF b f t).1.seen=b.seen from Ic b t f]; exact fun _ h=>aP h⟩
  ·split
   ·exact TJ b f t x p
   ·exact Xc b t x f
theorem KI.step {i:Nat} {b:Br} (h:KI i b) (hi:i<12) (f mk:Int) (t x:eG) (p:List C5) (hc:jQ b.near f=aI) (hq:Wr.iV p=aI) (hp:dQ p):KI (i+1) (jE b f mk t x p).1:=by
 unfold jE
 split
 ·exact h.dM hi f t p hc hq hp
 ·split
  ·exact h.forget t f
  ·split
   ·exact h.adA f t x p hc hq hp
   ·exact h.drop t x f
def oP (k:Nat):List Int:=(aW k).map fun (j:Nat)=>(j:Int)+1
theorem zW (k:Nat):oP (k+1)=oP k++[(k:Int)+1]:=by simp [oP,List.range_succ]
theorem qB (k:Nat):(oP k).length=k:=by simp [oP]
theorem zX:∀ k,(oP k).Pairwise (·<·)
 | 0=>au
 | k+1=>by
  rw [zW,List.pairwise_append];refine⟨zX k,by simp,fun a ha b hb=>?_⟩;rw [List.mem_singleton.1 hb];obtain⟨j,hj,rfl⟩:=Z.1 ha;have:=aQ.1 hj;omega
theorem abm (k:Nat) (hk:k<=4):KI 0 ⟨0,oP k,[],[],[],[]⟩ :=
 ⟨⟨zX k,au,au,au,au,fun a h=>by simp at h,fun a h=>by simp at h,fun a h=>by simp at h⟩,fun a h=>by simp at h,fun a h=>by simp at h,fun a h=>by simp at h,by rw [qB]; exact hk,V _,V _,V _,V _⟩
theorem Xd (has vals:List Int):dQ ((pE has vals 7).map r5):=⟨_,Qv has vals,rfl⟩
abbrev TL (b:Br):Prop:=SnK b/\Go.Proofs.YtkcfgbddlpomgaaGreat.Sb.gY b/\b.near=oP b.near.length
theorem TM (zn:Int) (v:aV) (n:Nat) (w:aJ) (h1:-9223372036854775808<=zn) (h2:zn<=9223372036854775807) (hs:JD w v n) (hn:n<=maxLen) :
  Calls Tryz.prog 7 #[.agg #[Q U zn,v]] w fun e w'=>(∃ (b:Br) (nv av sv ev ov:Sl),e=.returned (nT b.me nv av sv ev ov)/\xD w' b nv av sv ev ov/\KI 12 b/\1<=b.near.length/\TL b)/\Below w.heap.size w w':=by
 obtain⟨so,sc,rfl⟩:=hs.shape;obtain⟨h0,g1,g2,g3⟩:=gM w #[Q U zn,D so n sc] #[Q U 0,D K 0 0,D K 0 0,D K 0 0,D K 0 0,D K 0 0] #[Q U 0,D K 0 0,D K 0 0,D K 0 0,D K 0 0,D K 0 0] 24 33 33;have gD:=J (h0);have JZ:=J (g1);have adB:=J (g2);have abn:=J (g3);have HS:=J hs;have HN:=J hn;clear h0 g1 g2 g3 hs hn;go_enter Tryz.func7,Tryz.ntmps7;go_upto_region 2 with fail;generalize (((w.alloc (aF #[Q U zn,D so n sc] 24)).alloc (aF #[Q U 0,D K 0 0,D K 0 0,D K 0 0,D K 0 0,D K 0 0] 33)).alloc (aF #[Q U 0,D K 0 0,D K 0 0,D K 0 0,D K 0 0,D K 0 0] 33))=W at *;have WI:=Wi.gW zn 1 4 W (by decide) (by decide) (by decide) h1 h2;have WB:=Wi.iO zn 1 4 (by decide);generalize Wi.within zn 1 4=y at *;obtain⟨m,rfl⟩:∃ m:Nat,y=m:=⟨y.toNat,by omega⟩;have M1:=J (show 1<=m from by omega);have M4:m<=4:=by omega
 clear WB h1 h2;obtain⟨x0,x1⟩:=JZ.out.cs2;go_wp2_with fail;refine WI.mono ?_;rintro e1 w1 ⟨rfl,rfl⟩;clear WI;clear x0 x1;go_wp2_with fail
 go_loopw [15] (fun i wr=>∃ (k:Nat) (a:Option aT) (c:Nat),k<=m/\i=Q U k/\Below w.heap.size w wr/\dI wr w.heap.size #[Q U zn,D so n sc] 24/\dI wr (w.heap.size+1) #[Q U 0,D K 0 0,D K 0 0,D K 0 0,D K 0 0,D K 0 0] 33/\dI wr (w.heap.size+1+1) #[Q U 0,D a k c,D K 0 0,D K 0 0,D K 0 0,D K 0 0] 33/\mI wr (w.heap.size+3) (D a k c) (oP k)/\w.heap.size+3<=wr.heap.size) (fun i _=>m-(intOf i).toNat)
 case atStart=>exact⟨0,K,0,aS _,rfl,gD.out,JZ.out,adB.out,abn.out,gy _ _,by have:=abn.out.lt; omega⟩
 case round =>
  clear gD JZ adB abn;obtain⟨k,a,c,hk,rfl,hgb,hx1,hx2,hx3,hoe,hws⟩:=hrel;have kV:=J (hgb);have vB:=J (hx1);have Md:=J (hx2);have vD:=J (hx3);have Ie:=J (hoe);have WS:=J hws;clear hgb hx1 hx2 hx3 hoe hws;by_cases hlt:k<m
  ·have hlt':(k:Int)<(m:Int):=by omega
   have hw:IntKind.i64.wrap ((k:Int)+1)=(k:Int)+1:=IntWalk.i64_in _ (by omega);have c1:=vD.out.cell 1;simp only [aD,aB,aC] at c1;have hl:=gZ Nm.IL wr [(k:Int)+1] 1 rfl (by simp) #[Q U ((k:Int)+1)] (by rfl);have NB:=fO wr (aF #[Q U ((k:Int)+1)] 3);have d1:=(vD.out.on NB).cell 1;simp only [aD,aB,aC] at d1;have oQ:=J (kV.out.trans (NB.mono kV.out.size));have Ig:=J (vB.out.on NB);have YQ:=J (Md.out.on NB);have TN:=J (vD.out.on NB);have Me:=J (Bk.dx Ie.out NB);clear kV vB Md vD Ie;obtain⟨v',x1,q1,oa,ga⟩:=fT Nm.IL (w.heap.size+3) Me.out (Row.dw hl) (by rw [qB]; omega) (by simp) (O WS.out NB.size) 25;have q1:(Builtin.append_ #[25,25] 25 #[D a k c,D (aH ⟨wr.heap.size,0,K⟩) 1 1]).run Tryz.prog (wr.alloc (aF #[Q U ((k:Int)+1)] 3))=.ok v' x1:=q1;rw [<- zW] at oa;obtain⟨a2,c2,hv⟩:=(Row.dw oa).len;rw [qB] at hv;subst hv;have KX:=fun (bb:Nat) (cs:Array aV) (tt:TypeId) (hbb:bb<w.heap.size+3) (hb:dI (wr.alloc (aF #[Q U ((k:Int)+1)] 3)) bb cs tt)=>show dI x1 bb cs tt from (ga.block bb hb.lt (fun e=>by have:=(Me.out.lt bb e.symm).1; omega)).trans hb;have V1:=J (KX _ _ _ (by omega) Ig.out);have V2:=J (KX _ _ _ (by omega) YQ.out);have V3:=J (KX _ _ _ (by omega) TN.out);have VG:=J (oQ.out.grown ga (by have:=WS.out; have:=NB.size; omega) fun j hj=>by have:=(Me.out.lt j hj).1; omega);have VO:=J oa;have VS:=J (O (O WS.out NB.size) ga.size);clear KX hl NB oa ga oQ Ig YQ TN Me;have e1:=V3.out.cell 1;have f1:=V3.out.fr 1;have zz:=V3.out.lt;simp only [aD,aB,aC] at e1;go_upto_region 6 with (first | (at_builtin; refine wpList_append_run rfl _ _ 25 rfl rfl rfl q1 ?_) | fail)
   clear zz e1 f1 c1 d1 q1;have U3:=dO (k:=1) V3.out (D a2 (k+1) c2);simp only [List.setIfInBounds_toArray,List.set_cons_zero,List.set_cons_succ] at U3;have BK:=dR x1 (w.heap.size+1+1) 1 (D a2 (k+1) c2);have UG:=J (VG.out.setCell (p:=⟨w.heap.size+1+1,1,K⟩) (by show w.heap.size<=w.heap.size+1+1; omega) (D a2 (k+1) c2));have U1:=J (BK.box V1.out (by omega));have U2:=J (BK.box V2.out (by omega));have U3:=J U3;have UO:=J (dY VO.out (w.heap.size+1+1) 1 (D a2 (k+1) c2) (by omega));have US:=J (show w.heap.size+3<=(x1.setCell ⟨w.heap.size+1+1,1,K⟩ (D a2 (k+1) c2)).heap.size from by have:=VS.out; simpa using this);clear BK V1 V2 V3 VG VO VS;generalize x1.setCell ⟨w.heap.size+1+1,1,K⟩ (D a2 (k+1) c2)=x2 at *;go_wp2_with fail
   go_roundw
   case rel=>exact⟨k+1,a2,c2,hlt,by go_num,UG.out,U1.out,U2.out,U3.out,UO.out,US.out⟩
   case measure=>simp [intOf]; omega
  ·obtain rfl:k=m:=by omega
   have BR:=J (show xD wr ⟨0,oP k,[],[],[],[]⟩ (a,k,c) (K,0,0) (K,0,0) (K,0,0) (K,0,0) from ⟨R8 wr 0 (Row.dw Ie.out),_,Ie.out⟩);have KK:=J (abm k M4);have NL:=J (show 1<=(oP k).length from by rw [qB]; exact M1.out);go_wp2_with fail
   go_loopw [5] (fun i wr=>∃ (k:Nat) (b:Br) (o1:Option aT) (n1 c1:Nat) (o2:Option aT) (n2 c2:Nat) (o3:Option aT) (n3 c3:Nat) (o4:Option aT) (n4 c4:Nat) (o5:Option aT) (n5 c5:Nat),k<=n/\k<=12/\i=Q U k/\Below w.heap.size w wr/\dI wr w.heap.size #[Q U zn,D so n sc] 24/\dI wr (w.heap.size+1) #[Q U 0,D K 0 0,D K 0 0,D K 0 0,D K 0 0,D K 0 0] 33/\dI wr (w.heap.size+1+1) #[Q U 0,D o1 n1 c1,D o2 n2 c2,D o3 n3 c3,D o4 n4 c4,D o5 n5 c5] 33/\xD wr b (o1,n1,c1) (o2,n2,c2) (o3,n3,c3) (o4,n4,c4) (o5,n5,c5)/\KI k b/\b.me=0/\1<=b.near.length/\TL b) (fun i _=>12-(intOf i).toNat)
   case atStart=>exact⟨0,⟨0,oP k,[],[],[],[]⟩,a,k,c,K,0,0,K,0,0,K,0,0,K,0,0,aS _,aS _,rfl,kV.out,vB.out,Md.out,vD.out,BR.out,KK.out,rfl,NL.out,⟨⟨fun x h=>by simp at h,fun x h=>by simp at h,fun x h=>by simp at h⟩,fun a h=>by simp at h,by rw [qB]⟩⟩
   case round =>
    clear WS BR KK NL kV vB Md vD Ie;obtain⟨i,b,o1,n1,c1,o2,n2,c2,o3,n3,c3,o4,n4,c4,o5,n5,c5,hin,Xe,rfl,hgb,hx1,hx2,hx3,hbr,hki,hme,hnl,hsn⟩:=hrel;have r9:=J (hgb);have Mf:=J (hx1);have zY:=J (hx2);have TP:=J (hx3);have TQ:=J (hbr);have KK:=J hki;have ME:=J hme;have NL:=J hnl;have SN:=J hsn;clear hgb hx1 hx2 hx3 hbr hki hme hnl hsn;by_cases hlt:i<n/\i<12
    ·obtain⟨hc,h12⟩:=hlt;have hc':(i:Int)<(n:Int):=by omega
     have aiN:(i:Int)<12:=by omega
     have hw:IntKind.i64.wrap ((i:Int)+1)=(i:Int)+1:=IntWalk.i64_in _ (by omega);obtain⟨p,z0,z1,z2,z3,z4,h1,h2,h3,g1,g2,g3,has,vals,hpl,ix,pz,dz,ih,iv,hll⟩:=HS.out.at_ i hc;have p0:=pz 0 _ rfl;have p1:=pz 1 _ rfl;have p2:=pz 2 _ rfl;have p3:=pz 3 _ rfl;have p4:=pz 4 _ rfl;have p5:=pz 5 _ rfl;have p6:=pz 6 _ rfl;simp [Addr.add] at p0 p1 p2 p3 p4 p5 p6;have r0:wr.cell? p=aH (Q U z0):=(r9.out.cell (show (p:aT).block<w.heap.size from hpl)).trans p0;have r1:wr.cell? ⟨p.block,p.off+1,K⟩=aH (Q U z1):=(r9.out.cell (show (⟨p.block,p.off+1,K⟩:aT).block<w.heap.size from hpl)).trans p1;have r2:wr.cell? ⟨p.block,p.off+2,K⟩=aH (Q U z2):=(r9.out.cell (show (⟨p.block,p.off+2,K⟩:aT).block<w.heap.size from hpl)).trans p2;have r3:wr.cell? ⟨p.block,p.off+3,K⟩=aH (Q U z3):=(r9.out.cell (show (⟨p.block,p.off+3,K⟩:aT).block<w.heap.size from hpl)).trans p3;have r4:wr.cell? ⟨p.block,p.off+4,K⟩=aH (Q U z4):=(r9.out.cell (show (⟨p.block,p.off+4,K⟩:aT).block<w.heap.size from hpl)).trans p4;have r5:wr.cell? ⟨p.block,p.off+5,K⟩=aH (D h1 h2 h3):=(r9.out.cell (show (⟨p.block,p.off+5,K⟩:aT).block<w.heap.size from hpl)).trans p5;have r6:wr.cell? ⟨p.block,p.off+6,K⟩=aH (D g1 g2 g3):=(r9.out.cell (show (⟨p.block,p.off+6,K⟩:aT).block<w.heap.size from hpl)).trans p6;have IH0:=J ih;have IV0:=J iv;have DZ:=J dz;have LL:=J hll;clear p0 p1 p2 p3 p4 p5 p6 pz ih iv dz hll;obtain⟨x0,x1⟩:=Mf.out.cs2;go_upto_region 11 with fail;clear r0 r1 r2 r3 r4 r5 r6 ix hpl;clear x0 x1;have NN:=fO wr (aF #[Q U z0,Q U z1,Q U z2,Q U z3,Q U z4,D h1 h2 h3,D g1 g2 g3] 83);have mY:=J (r9.out.trans (NN.mono r9.out.size));have YR:=J (Mf.out.on NN);have YS:=J (zY.out.on NN);have YT:=J (TP.out.on NN);have YU:=J (TQ.out.on NN);clear r9 Mf zY TP TQ;have oM:=J (dK wr #[Q U z0,Q U z1,Q U z2,Q U z3,Q U z4,D h1 h2 h3,D g1 g2 g3] 83);clear NN;generalize wr.alloc (aF #[Q U z0,Q U z1,Q U z2,Q U z3,Q U z4,D h1 h2 h3,D g1 g2 g3] 83)=wa at *;have WI:=Wi.gW z2 0 2 wa (by decide) (by decide) (by decide) DZ.out.2.2.1.1 DZ.out.2.2.1.2;have TB:=J (Wi.iO z2 0 2 (by decide)).2;generalize Wi.within z2 0 2=tt at *;obtain⟨q0,q1,q2,q3,q4,q5,q6⟩:=oM.out.oq;go_wp2_with fail;refine WI.mono ?_;rintro e2 w2 ⟨rfl,rfl⟩;clear WI;go_upto_region 12 with fail;clear q0 q1 q2 q3 q4 q5 q6;have NN:=fO wa (aF #[Q U tt,Q U 0] 38);have kS:=J (mY.out.trans (NN.mono mY.out.size));have YV:=J (YR.out.on NN);have YW:=J (YS.out.on NN);have tL:=J (YT.out.on NN);have YX:=J (YU.out.on NN);have uX:=J (oM.out.on NN);clear mY YR YS YT YU oM;have YZ:=J (dK wa #[Q U tt,Q U 0] 38);clear NN;generalize wa.alloc (aF #[Q U tt,Q U 0] 38)=wb at *;refine afv _ wb wr.heap.size z0 z1 z2 z3 z4 h1 h2 h3 g1 g2 g3 _ _ _ _ _ _ _ _ _ _ _ _ _ _ _ _ _ _ _ _ _ _ _ _ _ _ _ _ _ _ _ _ _ _ _ _ _ _ _ _ _ _ _ _ _ _ _ _ _ _ _ _ _ _ _ _ _ _ _ _ _ _ _ _ _ _ _ _ _ _ _ _ _ _ _ _ _ _ _ _ _ _ _ _ _ _ _ _ _ _ _ _ _ _ _ _ _ _ _ _ _ _ _ _ _ _ _ _ _ _ _ _ _ _ _ _ _ _ _ _ _ _ _ uX.out DZ.out.2.2.2.1 DZ.out.2.2.2.2 ?_;intro wc b8 v46 v47 v48 v49 v50 v51 v52 hb8 hbx hbel;have oN:=J (kS.out.trans (hbel.mono kS.out.size));have Y0:=J (YV.out.on hbel);have Y7:=J (YW.out.on hbel);have lJ:=J (tL.out.on hbel);have TR:=J (YX.out.on hbel);have uY:=J (uX.out.on hbel);have Y9:=J (YZ.out.on hbel);clear kS YV YW tL YX uX YZ;have Za:=J (hbx);clear hbx hbel;have IB:=J (show K4 (Wi.within z3 0 4) from Wi.iO z3 0 4 (by decide));generalize Wi.within z3 0 4=i1 at *;generalize Wi.within z4 0 2=i2 at *;have SD:=Ry 0 z1 (o1,n1,c1) (D o2 n2 c2) (D o3 n3 c3) (D o4 n4 c4) (D o5 n5 c5) b.near wc TR.out.br.near (by have:=KK.out.ln; omega) DZ.out.2.1.1 DZ.out.2.1.2;have SC:=J (JV b.near z1);generalize Cu b.near z1=f at *;obtain⟨x0,x1,x2,x3,x4,x5⟩:=lJ.out.eZ;obtain⟨q0,q1,q2,q3,q4,q5,q6⟩:=uY.out.oq;go_wp2_with fail;refine SD.mono ?_;rintro e3 wd ⟨rfl,hb⟩;clear SD;clear x0 x1 x2 x3 x4 x5 q0 q1 q2 q3 q4 q5 q6;have Ih:=J (oN.out.trans (hb.mono oN.out.size));have Zb:=J (Y0.out.on hb);have Zc:=J (Y7.out.on hb);have Zd:=J (lJ.out.on hb);have Ze:=J (TR.out.on hb);have TS:=J (uY.out.on hb);have TU:=J (Y9.out.on hb);have TV:=J (Za.out.on hb);clear oN Y0 Y7 lJ TR uY Y9 Za;clear hb;go_upto_region 14 with fail;refine afw _ wd wr.heap.size wa.heap.size b8 z0 z1 z2 z3 z4 tt 0 i1 i2 h1 h2 h3 g1 g2 g3 has vals _ _ _ _ _ _ _ _ _ _ _ _ _ _ _ _ _ _ _ _ _ _ _ _ _ _ _ _ _ _ _ _ _ _ _ _ _ _ _ _ _ _ _ _ _ _ _ _ _ _ _ _ _ _ _ _ _ _ _ _ _ _ _ _ _ _ _ _ _ _ _ _ _ _ _ _ _ _ _ _ _ _ _ _ _ _ _ _ _ _ _ _ _ _ _ _ _ _ _ _ _ _ _ _ _ _ _ _ _ _ _ _ _ _ _ _ _ _ _ _ _ TS.out DZ.out.1 TU.out TV.out (IH0.out.on Ih.out) (IV0.out.on Ih.out) LL.out.1 LL.out.2 ?_;intro we b10 v57 v58 v59 v60 v61 v62 v63 v64 v65 m1 m2 m3 aiQ hbx hown hbel;have jy:=J (Ih.out.trans (hbel.mono Ih.out.size));have lS:=J (Zb.out.on hbel);have lT:=J (Zc.out.on hbel);have jw:=J (Zd.out.on hbel);have kr:=J (Ze.out.on hbel);have qy:=J (TS.out.on hbel);have tN:=J (TU.out.on hbel);have tO:=J (TV.out.on hbel);clear Ih Zb Zc Zd Ze TS TU TV;have pq:=J (hbx);have PR:=J (Row.dw hown);have RP:=J (JG has vals);have OP:=J (Xd has vals);clear hbx hown hbel;have MB:=Wi.iO z0 1 7 (by decide);generalize Wi.within z0 1 7=mk at *;generalize (pE has vals 7).map r5=pp at *;have KA:=KK.out.ls;have KB:=KK.out.la;have KC:=KK.out.lo;have KD:=KK.out.le;have KE:=KK.out.ln;have CS:=J (fun mk2 h=>Oz b (o1,n1,c1) (o2,n2,c2) (o3,n3,c3) (o4,n4,c4) (o5,n5,c5) f mk2 (tt,0) (i1,i2) (m1,m2,m3) (K,0,0) pp we kr.out.br PR.out h (by omega) (by omega) (by omega) (by omega) KK.out.pe KK.out.po OP.out KK.out.kn);have CA:=J (GU b (o1,n1,c1) (o2,n2,c2) (o3,n3,c3) (o4,n4,c4) (o5,n5,c5) f (tt,0) (m1,m2,m3) pp we kr.out.br PR.out (by omega) (by omega) (by omega) (by omega) KK.out.pe KK.out.po OP.out);have CB:=J (OH b (o1,n1,c1) (o2,n2,c2) (o3,n3,c3) (o4,n4,c4) (o5,n5,c5) (i1,i2) (m1,m2,m3) pp we kr.out.br PR.out (by omega) (by omega) (by omega) KK.out.pe KK.out.pa OP.out);have CU:=J (Gh b (o1,n1,c1) (o2,n2,c2) (o3,n3,c3) (o4,n4,c4) (o5,n5,c5) (i1,i2) we kr.out.br (by omega) (by omega) (by omega) KK.out.pe KK.out.kn);rw [ME.out] at CS CA CB CU;clear KA KB KC KD KE;obtain⟨x0,x1,x2,x3,x4,x5⟩:=jw.out.eZ;obtain⟨DU,y_1⟩:=tO.out.cs2;obtain⟨z0,z1⟩:=tN.out.cs2;obtain⟨q0,q1,q2,q3,q4,q5,q6⟩:=pq.out.oq;rcases (by omega:mk=1\/mk=2\/mk=3\/mk=4\/mk=5\/mk=6\/mk=7) with rfl|rfl|rfl|rfl|rfl|rfl|rfl
     ·go_wp2_with fail;refine (CS.out 1 (by decide)).mono ?_;rintro e5 wf ⟨⟨⟨aa,an,ac⟩,⟨sa,sn,iB⟩,⟨ea,en,ec⟩,_,rfl,hbr,_⟩,hb⟩;clear CS CA CB CU;clear x0 x1 x2 x3 x4 x5 DU y_1 z0 z1 q0 q1 q2 q3 q4 q5 q6;have mR:=J (yg b f 1 (tt,0) (i1,i2) pp);have Ii:=J (KK.out.step h12 f 1 (tt,0) (i1,i2) pp SC.out RP.out OP.out);have BN:=J (show xD wf (jE b f 1 (tt,0) (i1,i2) pp).1 (o1,n1,c1) (aa,an,ac) (sa,sn,iB) (ea,en,ec) (o5,n5,c5) from ⟨hbr,by rw [mR.out.2.1]; exact (kr.out.on hb).no⟩);clear hbr;clear kr qy tN tO pq;have jF:=J (jy.out.trans (hb.mono jy.out.size));have jG:=J (lS.out.on hb);have jH:=J (lT.out.on hb);have fB:=J (jw.out.on hb);clear jy lS lT jw;clear hb;obtain⟨k0,k1,k2,k3,k4,k5⟩:=fB.out.eZ;obtain⟨pQ,pR,pU,pV,pW,pX⟩:=fB.out.ku;have zz:=fB.out.lt;have G1:=J (dB (b:=w.heap.size+1+1) jF.out (by omega) (Q U 0) (D o1 n1 c1) (D aa an ac) (D sa sn iB) (D ea en ec) (D o5 n5 c5));have G3:=J (dJ fB.out (Q U 0) (D o1 n1 c1) (D aa an ac) (D sa sn iB) (D ea en ec) (D o5 n5 c5));have Ga:=J (show dI _ _ _ _ from (dD wf (w.heap.size+1+1) (Q U 0) (D o1 n1 c1) (D aa an ac) (D sa sn iB) (D ea en ec) (D o5 n5 c5) w.heap.size (by omega)).trans jG.out);have Gb:=J (show dI _ _ _ _ from (dD wf (w.heap.size+1+1) (Q U 0) (D o1 n1 c1) (D aa an ac) (D sa sn iB) (D ea en ec) (D o5 n5 c5) (w.heap.size+1) (by omega)).trans jH.out);have GN:=J (BN.out.keep (s1:=(o1,n1,c1)) (s2:=(o2,n2,c2)) (s3:=(o3,n3,c3)) (s4:=(o4,n4,c4)) (s5:=(o5,n5,c5)) fB.out (gq wf (w.heap.size+1+1) (Q U 0) (D o1 n1 c1) (D aa an ac) (D sa sn iB) (D ea en ec) (D o5 n5 c5)));clear BN jF jG jH fB;go_upto_region 9 with fail;clear zz k0 k1 k2 k3 k4 k5 pQ pR pU pV pW pX;unfold gN at G1 G3 Ga Gb GN;generalize ((((((wf.setCell ⟨w.heap.size+1+1,0,K⟩ (Q U 0)).setCell ⟨w.heap.size+1+1,1,K⟩ (D o1 n1 c1)).setCell ⟨w.heap.size+1+1,2,K⟩ (D aa an ac)).setCell ⟨w.heap.size+1+1,3,K⟩ (D sa sn iB)).setCell ⟨w.heap.size+1+1,4,K⟩ (D ea en ec)).setCell ⟨w.heap.size+1+1,5,K⟩ (D o5 n5 c5))=wg at *;have MX:=J (mR.out.1.trans ME.out);have NX:=J (show 1<=((jE b f 1 (tt,0) (i1,i2) pp).1).near.length from by rw [mR.out.2.1]; exact NL.out);have SX:=J (show TL ((jE b f 1 (tt,0) (i1,i2) pp).1) from ⟨⟨fun x hx=>by rcases mR.out.2.2 x hx with h | h; exact SN.out.1.1 x h; rw [h]; exact TB.out,xZ SN.out.1.2 _ _ _ _ _ IB.out⟩,Go.Proofs.YtkcfgbddlpomgaaGreat.Sb.oO KK.out.ok SN.out.2.1 _ _ _ _ _ SC.out RP.out,by rw [mR.out.2.1]; exact SN.out.2.2⟩);go_wp2_with fail
      go_roundw
      case rel=>exact⟨i+1,(jE b f 1 (tt,0) (i1,i2) pp).1,o1,n1,c1,aa,an,ac,sa,sn,iB,ea,en,ec,o5,n5,c5,hc,h12,by go_num,G1.out,Ga.out,Gb.out,G3.out,GN.out,Ii.out,MX.out,NX.out,SX.out⟩
      case measure=>simp [intOf]; omega
     ·go_wp2_with fail;refine (CS.out 2 (by decide)).mono ?_;rintro e5 wf ⟨⟨⟨aa,an,ac⟩,⟨sa,sn,iB⟩,⟨ea,en,ec⟩,_,rfl,hbr,_⟩,hb⟩;clear CS CA CB CU;clear x0 x1 x2 x3 x4 x5 DU y_1 z0 z1 q0 q1 q2 q3 q4 q5 q6;have mR:=J (yg b f 2 (tt,0) (i1,i2) pp);have Ii:=J (KK.out.step h12 f 2 (tt,0) (i1,i2) pp SC.out RP.out OP.out);have BN:=J (show xD wf (jE b f 2 (tt,0) (i1,i2) pp).1 (o1,n1,c1) (aa,an,ac) (sa,sn,iB) (ea,en,ec) (o5,n5,c5) from ⟨hbr,by rw [mR.out.2.1]; exact (kr.out.on hb).no⟩);clear hbr;clear kr qy tN tO pq;have jF:=J (jy.out.trans (hb.mono jy.out.size));have jG:=J (lS.out.on hb);have jH:=J (lT.out.on hb);have fB:=J (jw.out.on hb);clear jy lS lT jw;clear hb;obtain⟨k0,k1,k2,k3,k4,k5⟩:=fB.out.eZ;obtain⟨pQ,pR,pU,pV,pW,pX⟩:=fB.out.ku;have zz:=fB.out.lt;have G1:=J (dB (b:=w.heap.size+1+1) jF.out (by omega) (Q U 0) (D o1 n1 c1) (D aa an ac) (D sa sn iB) (D ea en ec) (D o5 n5 c5));have G3:=J (dJ fB.out (Q U 0) (D o1 n1 c1) (D aa an ac) (D sa sn iB) (D ea en ec) (D o5 n5 c5));have Ga:=J (show dI _ _ _ _ from (dD wf (w.heap.size+1+1) (Q U 0) (D o1 n1 c1) (D aa an ac) (D sa sn iB) (D ea en ec) (D o5 n5 c5) w.heap.size (by omega)).trans jG.out);have Gb:=J (show dI _ _ _ _ from (dD wf (w.heap.size+1+1) (Q U 0) (D o1 n1 c1) (D aa an ac) (D sa sn iB) (D ea en ec) (D o5 n5 c5) (w.heap.size+1) (by omega)).trans jH.out);have GN:=J (BN.out.keep (s1:=(o1,n1,c1)) (s2:=(o2,n2,c2)) (s3:=(o3,n3,c3)) (s4:=(o4,n4,c4)) (s5:=(o5,n5,c5)) fB.out (gq wf (w.heap.size+1+1) (Q U 0) (D o1 n1 c1) (D aa an ac) (D sa sn iB) (D ea en ec) (D o5 n5 c5)));clear BN jF jG jH fB;go_upto_region 9 with fail;clear zz k0 k1 k2 k3 k4 k5 pQ pR pU pV pW pX;unfold gN at G1 G3 Ga Gb GN;generalize ((((((wf.setCell ⟨w.heap.size+1+1,0,K⟩ (Q U 0)).setCell ⟨w.heap.size+1+1,1,K⟩ (D o1 n1 c1)).setCell ⟨w.heap.size+1+1,2,K⟩ (D aa an ac)).setCell ⟨w.heap.size+1+1,3,K⟩ (D sa sn iB)).setCell ⟨w.heap.size+1+1,4,K⟩ (D ea en ec)).setCell ⟨w.heap.size+1+1,5,K⟩ (D o5 n5 c5))=wg at *;have MX:=J (mR.out.1.trans ME.out);have NX:=J (show 1<=((jE b f 2 (tt,0) (i1,i2) pp).1).near.length from by rw [mR.out.2.1]; exact NL.out);have SX:=J (show TL ((jE b f 2 (tt,0) (i1,i2) pp).1) from ⟨⟨fun x hx=>by rcases mR.out.2.2 x hx with h | h; exact SN.out.1.1 x h; rw [h]; exact TB.out,xZ SN.out.1.2 _ _ _ _ _ IB.out⟩,Go.Proofs.YtkcfgbddlpomgaaGreat.Sb.oO KK.out.ok SN.out.2.1 _ _ _ _ _ SC.out RP.out,by rw [mR.out.2.1]; exact SN.out.2.2⟩);go_wp2_with fail
      go_roundw
      case rel=>exact⟨i+1,(jE b f 2 (tt,0) (i1,i2) pp).1,o1,n1,c1,aa,an,ac,sa,sn,iB,ea,en,ec,o5,n5,c5,hc,h12,by go_num,G1.out,Ga.out,Gb.out,G3.out,GN.out,Ii.out,MX.out,NX.out,SX.out⟩
      case measure=>simp [intOf]; omega
     ·by_cases hf:f=-1
      ·subst hf;go_wp2_with fail;refine CA.out.mono ?_;rintro e5 wf ⟨⟨⟨aa,an,ac⟩,⟨sa,sn,iB⟩,⟨ea,en,ec⟩,_,rfl,hbr,_⟩,hb⟩;clear CS CA CB CU;clear x0 x1 x2 x3 x4 x5 DU y_1 z0 z1 q0 q1 q2 q3 q4 q5 q6;have mR:=J (Er b (-1) (tt,0) pp);have Ii:=J (KK.out.dM h12 (-1) (tt,0) pp SC.out RP.out OP.out);have BN:=J (show xD wf (kF b (-1) (tt,0) pp).1 (o1,n1,c1) (aa,an,ac) (sa,sn,iB) (ea,en,ec) (o5,n5,c5) from ⟨hbr,by rw [mR.out.2.1]; exact (kr.out.on hb).no⟩);clear hbr;clear kr qy tN tO pq;have jF:=J (jy.out.trans (hb.mono jy.out.size));have jG:=J (lS.out.on hb);have jH:=J (lT.out.on hb);have fB:=J (jw.out.on hb);clear jy lS lT jw;clear hb;obtain⟨k0,k1,k2,k3,k4,k5⟩:=fB.out.eZ;obtain⟨pQ,pR,pU,pV,pW,pX⟩:=fB.out.ku;have zz:=fB.out.lt;have G1:=J (dB (b:=w.heap.size+1+1) jF.out (by omega) (Q U 0) (D o1 n1 c1) (D aa an ac) (D sa sn iB) (D ea en ec) (D o5 n5 c5));have G3:=J (dJ fB.out (Q U 0) (D o1 n1 c1) (D aa an ac) (D sa sn iB) (D ea en ec) (D o5 n5 c5));have Ga:=J (show dI _ _ _ _ from (dD wf (w.heap.size+1+1) (Q U 0) (D o1 n1 c1) (D aa an ac) (D sa sn iB) (D ea en ec) (D o5 n5 c5) w.heap.size (by omega)).trans jG.out);have Gb:=J (show dI _ _ _ _ from (dD wf (w.heap.size+1+1) (Q U 0) (D o1 n1 c1) (D aa an ac) (D sa sn iB) (D ea en ec) (D o5 n5 c5) (w.heap.size+1) (by omega)).trans jH.out);have GN:=J (BN.out.keep (s1:=(o1,n1,c1)) (s2:=(o2,n2,c2)) (s3:=(o3,n3,c3)) (s4:=(o4,n4,c4)) (s5:=(o5,n5,c5)) fB.out (gq wf (w.heap.size+1+1) (Q U 0) (D o1 n1 c1) (D aa an ac) (D sa sn iB) (D ea en ec) (D o5 n5 c5)));clear BN jF jG jH fB;go_upto_region 9 with fail;clear zz k0 k1 k2 k3 k4 k5 pQ pR pU pV pW pX;unfold gN at G1 G3 Ga Gb GN;generalize ((((((wf.setCell ⟨w.heap.size+1+1,0,K⟩ (Q U 0)).setCell ⟨w.heap.size+1+1,1,K⟩ (D o1 n1 c1)).setCell ⟨w.heap.size+1+1,2,K⟩ (D aa an ac)).setCell ⟨w.heap.size+1+1,3,K⟩ (D sa sn iB)).setCell ⟨w.heap.size+1+1,4,K⟩ (D ea en ec)).setCell ⟨w.heap.size+1+1,5,K⟩ (D o5 n5 c5))=wg at *;have MX:=J (mR.out.1.trans ME.out);have NX:=J (show 1<=((kF b (-1) (tt,0) pp).1).near.length from by rw [mR.out.2.1]; exact NL.out);have SX:=J (show TL ((kF b (-1) (tt,0) pp).1) from ⟨⟨fun x hx=>by rcases mR.out.2.2 x hx with h | h; exact SN.out.1.1 x h; rw [h]; exact TB.out,Eo SN.out.1.2 _ _ _⟩,Go.Proofs.YtkcfgbddlpomgaaGreat.Sb.sS KK.out.ok SN.out.2.1 _ _ _ SC.out RP.out,by rw [mR.out.2.1]; exact SN.out.2.2⟩);go_wp2_with fail
       go_roundw
       case rel=>exact⟨i+1,(kF b (-1) (tt,0) pp).1,o1,n1,c1,aa,an,ac,sa,sn,iB,ea,en,ec,o5,n5,c5,hc,h12,by go_num,G1.out,Ga.out,Gb.out,G3.out,GN.out,Ii.out,MX.out,NX.out,SX.out⟩
       case measure=>simp [intOf]; omega
      ·have hfm:(f == -1)=aU:=by simp [hf]
       go_wp2_with fail;refine (CS.out 3 (by decide)).mono ?_;rintro e5 wf ⟨⟨⟨aa,an,ac⟩,⟨sa,sn,iB⟩,⟨ea,en,ec⟩,_,rfl,hbr,_⟩,hb⟩;clear CS CA CB CU;clear x0 x1 x2 x3 x4 x5 DU y_1 z0 z1 q0 q1 q2 q3 q4 q5 q6;have mR:=J (yg b f 3 (tt,0) (i1,i2) pp);have Ii:=J (KK.out.step h12 f 3 (tt,0) (i1,i2) pp SC.out RP.out OP.out);have BN:=J (show xD wf (jE b f 3 (tt,0) (i1,i2) pp).1 (o1,n1,c1) (aa,an,ac) (sa,sn,iB) (ea,en,ec) (o5,n5,c5) from ⟨hbr,by rw [mR.out.2.1]; exact (kr.out.on hb).no⟩);clear hbr;clear kr qy tN tO pq;have jF:=J (jy.out.trans (hb.mono jy.out.size));have jG:=J (lS.out.on hb);have jH:=J (lT.out.on hb);have fB:=J (jw.out.on hb);clear jy lS lT jw;clear hb;obtain⟨k0,k1,k2,k3,k4,k5⟩:=fB.out.eZ;obtain⟨pQ,pR,pU,pV,pW,pX⟩:=fB.out.ku;have zz:=fB.out.lt;have G1:=J (dB (b:=w.heap.size+1+1) jF.out (by omega) (Q U 0) (D o1 n1 c1) (D aa an ac) (D sa sn iB) (D ea en ec) (D o5 n5 c5));have G3:=J (dJ fB.out (Q U 0) (D o1 n1 c1) (D aa an ac) (D sa sn iB) (D ea en ec) (D o5 n5 c5));have Ga:=J (show dI _ _ _ _ from (dD wf (w.heap.size+1+1) (Q U 0) (D o1 n1 c1) (D aa an ac) (D sa sn iB) (D ea en ec) (D o5 n5 c5) w.heap.size (by omega)).trans jG.out);have Gb:=J (show dI _ _ _ _ from (dD wf (w.heap.size+1+1) (Q U 0) (D o1 n1 c1) (D aa an ac) (D sa sn iB) (D ea en ec) (D o5 n5 c5) (w.heap.size+1) (by omega)).trans jH.out);have GN:=J (BN.out.keep (s1:=(o1,n1,c1)) (s2:=(o2,n2,c2)) (s3:=(o3,n3,c3)) (s4:=(o4,n4,c4)) (s5:=(o5,n5,c5)) fB.out (gq wf (w.heap.size+1+1) (Q U 0) (D o1 n1 c1) (D aa an ac) (D sa sn iB) (D ea en ec) (D o5 n5 c5)));clear BN jF jG jH fB;go_upto_region 9 with fail;clear zz k0 k1 k2 k3 k4 k5 pQ pR pU pV pW pX;unfold gN at G1 G3 Ga Gb GN;generalize ((((((wf.setCell ⟨w.heap.size+1+1,0,K⟩ (Q U 0)).setCell ⟨w.heap.size+1+1,1,K⟩ (D o1 n1 c1)).setCell ⟨w.heap.size+1+1,2,K⟩ (D aa an ac)).setCell ⟨w.heap.size+1+1,3,K⟩ (D sa sn iB)).setCell ⟨w.heap.size+1+1,4,K⟩ (D ea en ec)).setCell ⟨w.heap.size+1+1,5,K⟩ (D o5 n5 c5))=wg at *;have MX:=J (mR.out.1.trans ME.out);have NX:=J (show 1<=((jE b f 3 (tt,0) (i1,i2) pp).1).near.length from by rw [mR.out.2.1]; exact NL.out);have SX:=J (show TL ((jE b f 3 (tt,0) (i1,i2) pp).1) from ⟨⟨fun x hx=>by rcases mR.out.2.2 x hx with h | h; exact SN.out.1.1 x h; rw [h]; exact TB.out,xZ SN.out.1.2 _ _ _ _ _ IB.out⟩,Go.Proofs.YtkcfgbddlpomgaaGreat.Sb.oO KK.out.ok SN.out.2.1 _ _ _ _ _ SC.out RP.out,by rw [mR.out.2.1]; exact SN.out.2.2⟩);go_wp2_with fail
       go_roundw
       case rel=>exact⟨i+1,(jE b f 3 (tt,0) (i1,i2) pp).1,o1,n1,c1,aa,an,ac,sa,sn,iB,ea,en,ec,o5,n5,c5,hc,h12,by go_num,G1.out,Ga.out,Gb.out,G3.out,GN.out,Ii.out,MX.out,NX.out,SX.out⟩
       case measure=>simp [intOf]; omega
     ·by_cases hf:f=-1
      ·subst hf;go_wp2_with fail;refine CA.out.mono ?_;rintro e5 wf ⟨⟨⟨aa,an,ac⟩,⟨sa,sn,iB⟩,⟨ea,en,ec⟩,_,rfl,hbr,_⟩,hb⟩;clear CS CA CB CU;clear x0 x1 x2 x3 x4 x5 DU y_1 z0 z1 q0 q1 q2 q3 q4 q5 q6;have mR:=J (Er b (-1) (tt,0) pp);have Ii:=J (KK.out.dM h12 (-1) (tt,0) pp SC.out RP.out OP.out);have BN:=J (show xD wf (kF b (-1) (tt,0) pp).1 (o1,n1,c1) (aa,an,ac) (sa,sn,iB) (ea,en,ec) (o5,n5,c5) from ⟨hbr,by rw [mR.out.2.1]; exact (kr.out.on hb).no⟩);clear hbr;clear kr qy tN tO pq;have jF:=J (jy.out.trans (hb.mono jy.out.size));have jG:=J (lS.out.on hb);have jH:=J (lT.out.on hb);have fB:=J (jw.out.on hb);clear jy lS lT jw;clear hb;obtain⟨k0,k1,k2,k3,k4,k5⟩:=fB.out.eZ;obtain⟨pQ,pR,pU,pV,pW,pX⟩:=fB.out.ku;have zz:=fB.out.lt;have G1:=J (dB (b:=w.heap.size+1+1) jF.out (by omega) (Q U 0) (D o1 n1 c1) (D aa an ac) (D sa sn iB) (D ea en ec) (D o5 n5 c5));have G3:=J (dJ fB.out (Q U 0) (D o1 n1 c1) (D aa an ac) (D sa sn iB) (D ea en ec) (D o5 n5 c5));have Ga:=J (show dI _ _ _ _ from (dD wf (w.heap.size+1+1) (Q U 0) (D o1 n1 c1) (D aa an ac) (D sa sn iB) (D ea en ec) (D o5 n5 c5) w.heap.size (by omega)).trans jG.out);have Gb:=J (show dI _ _ _ _ from (dD wf (w.heap.size+1+1) (Q U 0) (D o1 n1 c1) (D aa an ac) (D sa sn iB) (D ea en ec) (D o5 n5 c5) (w.heap.size+1) (by omega)).trans jH.out);have GN:=J (BN.out.keep (s1:=(o1,n1,c1)) (s2:=(o2,n2,c2)) (s3:=(o3,n3,c3)) (s4:=(o4,n4,c4)) (s5:=(o5,n5,c5)) fB.out (gq wf (w.heap.size+1+1) (Q U 0) (D o1 n1 c1) (D aa an ac) (D sa sn iB) (D ea en ec) (D o5 n5 c5)));clear BN jF jG jH fB;go_upto_region 9 with fail;clear zz k0 k1 k2 k3 k4 k5 pQ pR pU pV pW pX;unfold gN at G1 G3 Ga Gb GN;generalize ((((((wf.setCell ⟨w.heap.size+1+1,0,K⟩ (Q U 0)).setCell ⟨w.heap.size+1+1,1,K⟩ (D o1 n1 c1)).setCell ⟨w.heap.size+1+1,2,K⟩ (D aa an ac)).setCell ⟨w.heap.size+1+1,3,K⟩ (D sa sn iB)).setCell ⟨w.heap.size+1+1,4,K⟩ (D ea en ec)).setCell ⟨w.heap.size+1+1,5,K⟩ (D o5 n5 c5))=wg at *;have MX:=J (mR.out.1.trans ME.out);have NX:=J (show 1<=((kF b (-1) (tt,0) pp).1).near.length from by rw [mR.out.2.1]; exact NL.out);have SX:=J (show TL ((kF b (-1) (tt,0) pp).1) from ⟨⟨fun x hx=>by rcases mR.out.2.2 x hx with h | h; exact SN.out.1.1 x h; rw [h]; exact TB.out,Eo SN.out.1.2 _ _ _⟩,Go.Proofs.YtkcfgbddlpomgaaGreat.Sb.sS KK.out.ok SN.out.2.1 _ _ _ SC.out RP.out,by rw [mR.out.2.1]; exact SN.out.2.2⟩);go_wp2_with fail
       go_roundw
       case rel=>exact⟨i+1,(kF b (-1) (tt,0) pp).1,o1,n1,c1,aa,an,ac,sa,sn,iB,ea,en,ec,o5,n5,c5,hc,h12,by go_num,G1.out,Ga.out,Gb.out,G3.out,GN.out,Ii.out,MX.out,NX.out,SX.out⟩
       case measure=>simp [intOf]; omega
      ·have hfm:(f == -1)=aU:=by simp [hf]
       go_wp2_with fail;refine (CS.out 4 (by decide)).mono ?_;rintro e5 wf ⟨⟨⟨aa,an,ac⟩,⟨sa,sn,iB⟩,⟨ea,en,ec⟩,_,rfl,hbr,_⟩,hb⟩;clear CS CA CB CU;clear x0 x1 x2 x3 x4 x5 DU y_1 z0 z1 q0 q1 q2 q3 q4 q5 q6;have mR:=J (yg b f 4 (tt,0) (i1,i2) pp);have Ii:=J (KK.out.step h12 f 4 (tt,0) (i1,i2) pp SC.out RP.out OP.out);have BN:=J (show xD wf (jE b f 4 (tt,0) (i1,i2) pp).1 (o1,n1,c1) (aa,an,ac) (sa,sn,iB) (ea,en,ec) (o5,n5,c5) from ⟨hbr,by rw [mR.out.2.1]; exact (kr.out.on hb).no⟩);clear hbr;clear kr qy tN tO pq;have jF:=J (jy.out.trans (hb.mono jy.out.size));have jG:=J (lS.out.on hb);have jH:=J (lT.out.on hb);have fB:=J (jw.out.on hb);clear jy lS lT jw;clear hb;obtain⟨k0,k1,k2,k3,k4,k5⟩:=fB.out.eZ;obtain⟨pQ,pR,pU,pV,pW,pX⟩:=fB.out.ku;have zz:=fB.out.lt;have G1:=J (dB (b:=w.heap.size+1+1) jF.out (by omega) (Q U 0) (D o1 n1 c1) (D aa an ac) (D sa sn iB) (D ea en ec) (D o5 n5 c5));have G3:=J (dJ fB.out (Q U 0) (D o1 n1 c1) (D aa an ac) (D sa sn iB) (D ea en ec) (D o5 n5 c5));have Ga:=J (show dI _ _ _ _ from (dD wf (w.heap.size+1+1) (Q U 0) (D o1 n1 c1) (D aa an ac) (D sa sn iB) (D ea en ec) (D o5 n5 c5) w.heap.size (by omega)).trans jG.out);have Gb:=J (show dI _ _ _ _ from (dD wf (w.heap.size+1+1) (Q U 0) (D o1 n1 c1) (D aa an ac) (D sa sn iB) (D ea en ec) (D o5 n5 c5) (w.heap.size+1) (by omega)).trans jH.out);have GN:=J (BN.out.keep (s1:=(o1,n1,c1)) (s2:=(o2,n2,c2)) (s3:=(o3,n3,c3)) (s4:=(o4,n4,c4)) (s5:=(o5,n5,c5)) fB.out (gq wf (w.heap.size+1+1) (Q U 0) (D o1 n1 c1) (D aa an ac) (D sa sn iB) (D ea en ec) (D o5 n5 c5)));clear BN jF jG jH fB;go_upto_region 9 with fail;clear zz k0 k1 k2 k3 k4 k5 pQ pR pU pV pW pX;unfold gN at G1 G3 Ga Gb GN;generalize ((((((wf.setCell ⟨w.heap.size+1+1,0,K⟩ (Q U 0)).setCell ⟨w.heap.size+1+1,1,K⟩ (D o1 n1 c1)).setCell ⟨w.heap.size+1+1,2,K⟩ (D aa an ac)).setCell ⟨w.heap.size+1+1,3,K⟩ (D sa sn iB)).setCell ⟨w.heap.size+1+1,4,K⟩ (D ea en ec)).setCell ⟨w.heap.size+1+1,5,K⟩ (D o5 n5 c5))=wg at *;have MX:=J (mR.out.1.trans ME.out);have NX:=J (show 1<=((jE b f 4 (tt,0) (i1,i2) pp).1).near.length from by rw [mR.out.2.1]; exact NL.out);have SX:=J (show TL ((jE b f 4 (tt,0) (i1,i2) pp).1) from ⟨⟨fun x hx=>by rcases mR.out.2.2 x hx with h | h; exact SN.out.1.1 x h; rw [h]; exact TB.out,xZ SN.out.1.2 _ _ _ _ _ IB.out⟩,Go.Proofs.YtkcfgbddlpomgaaGreat.Sb.oO KK.out.ok SN.out.2.1 _ _ _ _ _ SC.out RP.out,by rw [mR.out.2.1]; exact SN.out.2.2⟩);go_wp2_with fail
       go_roundw
       case rel=>exact⟨i+1,(jE b f 4 (tt,0) (i1,i2) pp).1,o1,n1,c1,aa,an,ac,sa,sn,iB,ea,en,ec,o5,n5,c5,hc,h12,by go_num,G1.out,Ga.out,Gb.out,G3.out,GN.out,Ii.out,MX.out,NX.out,SX.out⟩
       case measure=>simp [intOf]; omega
     ·go_wp2_with fail;refine CA.out.mono ?_;rintro e5 wf ⟨⟨⟨aa,an,ac⟩,⟨sa,sn,iB⟩,⟨ea,en,ec⟩,_,rfl,hbr,_⟩,hb⟩;clear CS CA CB CU;clear x0 x1 x2 x3 x4 x5 DU y_1 z0 z1 q0 q1 q2 q3 q4 q5 q6;have mR:=J (Er b f (tt,0) pp);have Ii:=J (KK.out.dM h12 f (tt,0) pp SC.out RP.out OP.out);have BN:=J (show xD wf (kF b f (tt,0) pp).1 (o1,n1,c1) (aa,an,ac) (sa,sn,iB) (ea,en,ec) (o5,n5,c5) from ⟨hbr,by rw [mR.out.2.1]; exact (kr.out.on hb).no⟩);clear hbr;clear kr qy tN tO pq;have jF:=J (jy.out.trans (hb.mono jy.out.size));have jG:=J (lS.out.on hb);have jH:=J (lT.out.on hb);have fB:=J (jw.out.on hb);clear jy lS lT jw;clear hb;obtain⟨k0,k1,k2,k3,k4,k5⟩:=fB.out.eZ;obtain⟨pQ,pR,pU,pV,pW,pX⟩:=fB.out.ku;have zz:=fB.out.lt;have G1:=J (dB (b:=w.heap.size+1+1) jF.out (by omega) (Q U 0) (D o1 n1 c1) (D aa an ac) (D sa sn iB) (D ea en ec) (D o5 n5 c5));have G3:=J (dJ fB.out (Q U 0) (D o1 n1 c1) (D aa an ac) (D sa sn iB) (D ea en ec) (D o5 n5 c5));have Ga:=J (show dI _ _ _ _ from (dD wf (w.heap.size+1+1) (Q U 0) (D o1 n1 c1) (D aa an ac) (D sa sn iB) (D ea en ec) (D o5 n5 c5) w.heap.size (by omega)).trans jG.out);have Gb:=J (show dI _ _ _ _ from (dD wf (w.heap.size+1+1) (Q U 0) (D o1 n1 c1) (D aa an ac) (D sa sn iB) (D ea en ec) (D o5 n5 c5) (w.heap.size+1) (by omega)).trans jH.out);have GN:=J (BN.out.keep (s1:=(o1,n1,c1)) (s2:=(o2,n2,c2)) (s3:=(o3,n3,c3)) (s4:=(o4,n4,c4)) (s5:=(o5,n5,c5)) fB.out (gq wf (w.heap.size+1+1) (Q U 0) (D o1 n1 c1) (D aa an ac) (D sa sn iB) (D ea en ec) (D o5 n5 c5)));clear BN jF jG jH fB;go_upto_region 9 with fail;clear zz k0 k1 k2 k3 k4 k5 pQ pR pU pV pW pX;unfold gN at G1 G3 Ga Gb GN;generalize ((((((wf.setCell ⟨w.heap.size+1+1,0,K⟩ (Q U 0)).setCell ⟨w.heap.size+1+1,1,K⟩ (D o1 n1 c1)).setCell ⟨w.heap.size+1+1,2,K⟩ (D aa an ac)).setCell ⟨w.heap.size+1+1,3,K⟩ (D sa sn iB)).setCell ⟨w.heap.size+1+1,4,K⟩ (D ea en ec)).setCell ⟨w.heap.size+1+1,5,K⟩ (D o5 n5 c5))=wg at *;have MX:=J (mR.out.1.trans ME.out);have NX:=J (show 1<=((kF b f (tt,0) pp).1).near.length from by rw [mR.out.2.1]; exact NL.out);have SX:=J (show TL ((kF b f (tt,0) pp).1) from ⟨⟨fun x hx=>by rcases mR.out.2.2 x hx with h | h; exact SN.out.1.1 x h; rw [h]; exact TB.out,Eo SN.out.1.2 _ _ _⟩,Go.Proofs.YtkcfgbddlpomgaaGreat.Sb.sS KK.out.ok SN.out.2.1 _ _ _ SC.out RP.out,by rw [mR.out.2.1]; exact SN.out.2.2⟩);go_wp2_with fail
      go_roundw
      case rel=>exact⟨i+1,(kF b f (tt,0) pp).1,o1,n1,c1,aa,an,ac,sa,sn,iB,ea,en,ec,o5,n5,c5,hc,h12,by go_num,G1.out,Ga.out,Gb.out,G3.out,GN.out,Ii.out,MX.out,NX.out,SX.out⟩
      case measure=>simp [intOf]; omega
     ·go_wp2_with fail;refine CB.out.mono ?_;rintro e5 wf ⟨⟨⟨ea,en,ec⟩,⟨oa,lI,oc⟩,_,rfl,hbr,_⟩,hb⟩;clear CS CA CB CU;clear x0 x1 x2 x3 x4 x5 DU y_1 z0 z1 q0 q1 q2 q3 q4 q5 q6;have mR:=J (Xb (tt,0) b (i1,i2) pp);have Ii:=J (KK.out.subs h12 (i1,i2) pp RP.out OP.out);have BN:=J (show xD wf (ko b (i1,i2) pp).1 (o1,n1,c1) (o2,n2,c2) (o3,n3,c3) (ea,en,ec) (oa,lI,oc) from ⟨hbr,by rw [mR.out.2.1]; exact (kr.out.on hb).no⟩);clear hbr;clear kr qy tN tO pq;have jF:=J (jy.out.trans (hb.mono jy.out.size));have jG:=J (lS.out.on hb);have jH:=J (lT.out.on hb);have fB:=J (jw.out.on hb);clear jy lS lT jw;clear hb;obtain⟨k0,k1,k2,k3,k4,k5⟩:=fB.out.eZ;obtain⟨pQ,pR,pU,pV,pW,pX⟩:=fB.out.ku;have zz:=fB.out.lt;have G1:=J (dB (b:=w.heap.size+1+1) jF.out (by omega) (Q U 0) (D o1 n1 c1) (D o2 n2 c2) (D o3 n3 c3) (D ea en ec) (D oa lI oc));have G3:=J (dJ fB.out (Q U 0) (D o1 n1 c1) (D o2 n2 c2) (D o3 n3 c3) (D ea en ec) (D oa lI oc));have Ga:=J (show dI _ _ _ _ from (dD wf (w.heap.size+1+1) (Q U 0) (D o1 n1 c1) (D o2 n2 c2) (D o3 n3 c3) (D ea en ec) (D oa lI oc) w.heap.size (by omega)).trans jG.out);have Gb:=J (show dI _ _ _ _ from (dD wf (w.heap.size+1+1) (Q U 0) (D o1 n1 c1) (D o2 n2 c2) (D o3 n3 c3) (D ea en ec) (D oa lI oc) (w.heap.size+1) (by omega)).trans jH.out);have GN:=J (BN.out.keep (s1:=(o1,n1,c1)) (s2:=(o2,n2,c2)) (s3:=(o3,n3,c3)) (s4:=(o4,n4,c4)) (s5:=(o5,n5,c5)) fB.out (gq wf (w.heap.size+1+1) (Q U 0) (D o1 n1 c1) (D o2 n2 c2) (D o3 n3 c3) (D ea en ec) (D oa lI oc)));clear BN jF jG jH fB;go_upto_region 9 with fail;clear zz k0 k1 k2 k3 k4 k5 pQ pR pU pV pW pX;unfold gN at G1 G3 Ga Gb GN;generalize ((((((wf.setCell ⟨w.heap.size+1+1,0,K⟩ (Q U 0)).setCell ⟨w.heap.size+1+1,1,K⟩ (D o1 n1 c1)).setCell ⟨w.heap.size+1+1,2,K⟩ (D o2 n2 c2)).setCell ⟨w.heap.size+1+1,3,K⟩ (D o3 n3 c3)).setCell ⟨w.heap.size+1+1,4,K⟩ (D ea en ec)).setCell ⟨w.heap.size+1+1,5,K⟩ (D oa lI oc))=wg at *;have MX:=J (mR.out.1.trans ME.out);have NX:=J (show 1<=((ko b (i1,i2) pp).1).near.length from by rw [mR.out.2.1]; exact NL.out);have SX:=J (show TL ((ko b (i1,i2) pp).1) from ⟨⟨fun x hx=>by rcases mR.out.2.2 x hx with h | h; exact SN.out.1.1 x h; rw [h]; exact TB.out,Xa SN.out.1.2 _ _ IB.out⟩,Go.Proofs.YtkcfgbddlpomgaaGreat.Sb.JX KK.out.ok SN.out.2.1 _ _ RP.out,by rw [mR.out.2.1]; exact SN.out.2.2⟩);go_wp2_with fail
      go_roundw
      case rel=>exact⟨i+1,(ko b (i1,i2) pp).1,o1,n1,c1,o2,n2,c2,o3,n3,c3,ea,en,ec,oa,lI,oc,hc,h12,by go_num,G1.out,Ga.out,Gb.out,G3.out,GN.out,Ii.out,MX.out,NX.out,SX.out⟩
      case measure=>simp [intOf]; omega
     ·go_wp2_with fail;refine CU.out.mono ?_;rintro e5 wf ⟨⟨⟨ea,en,ec⟩,⟨oa,lI,oc⟩,_,rfl,hbr,_⟩,hb⟩;clear CS CA CB CU;clear x0 x1 x2 x3 x4 x5 DU y_1 z0 z1 q0 q1 q2 q3 q4 q5 q6;have mR:=J (O9 (tt,0) b (i1,i2));have Ii:=J (KK.out.abl (i1,i2));have BN:=J (show xD wf (iE b (i1,i2)).1 (o1,n1,c1) (o2,n2,c2) (o3,n3,c3) (ea,en,ec) (oa,lI,oc) from ⟨hbr,by rw [mR.out.2.1]; exact (kr.out.on hb).no⟩);clear hbr;clear kr qy tN tO pq;have jF:=J (jy.out.trans (hb.mono jy.out.size));have jG:=J (lS.out.on hb);have jH:=J (lT.out.on hb);have fB:=J (jw.out.on hb);clear jy lS lT jw;clear hb;obtain⟨k0,k1,k2,k3,k4,k5⟩:=fB.out.eZ;obtain⟨pQ,pR,pU,pV,pW,pX⟩:=fB.out.ku;have zz:=fB.out.lt;have G1:=J (dB (b:=w.heap.size+1+1) jF.out (by omega) (Q U 0) (D o1 n1 c1) (D o2 n2 c2) (D o3 n3 c3) (D ea en ec) (D oa lI oc));have G3:=J (dJ fB.out (Q U 0) (D o1 n1 c1) (D o2 n2 c2) (D o3 n3 c3) (D ea en ec) (D oa lI oc));have Ga:=J (show dI _ _ _ _ from (dD wf (w.heap.size+1+1) (Q U 0) (D o1 n1 c1) (D o2 n2 c2) (D o3 n3 c3) (D ea en ec) (D oa lI oc) w.heap.size (by omega)).trans jG.out);have Gb:=J (show dI _ _ _ _ from (dD wf (w.heap.size+1+1) (Q U 0) (D o1 n1 c1) (D o2 n2 c2) (D o3 n3 c3) (D ea en ec) (D oa lI oc) (w.heap.size+1) (by omega)).trans jH.out);have GN:=J (BN.out.keep (s1:=(o1,n1,c1)) (s2:=(o2,n2,c2)) (s3:=(o3,n3,c3)) (s4:=(o4,n4,c4)) (s5:=(o5,n5,c5)) fB.out (gq wf (w.heap.size+1+1) (Q U 0) (D o1 n1 c1) (D o2 n2 c2) (D o3 n3 c3) (D ea en ec) (D oa lI oc)));clear BN jF jG jH fB;go_upto_region 9 with fail;clear zz k0 k1 k2 k3 k4 k5 pQ pR pU pV pW pX;unfold gN at G1 G3 Ga Gb GN;generalize ((((((wf.setCell ⟨w.heap.size+1+1,0,K⟩ (Q U 0)).setCell ⟨w.heap.size+1+1,1,K⟩ (D o1 n1 c1)).setCell ⟨w.heap.size+1+1,2,K⟩ (D o2 n2 c2)).setCell ⟨w.heap.size+1+1,3,K⟩ (D o3 n3 c3)).setCell ⟨w.heap.size+1+1,4,K⟩ (D ea en ec)).setCell ⟨w.heap.size+1+1,5,K⟩ (D oa lI oc))=wg at *;have MX:=J (mR.out.1.trans ME.out);have NX:=J (show 1<=((iE b (i1,i2)).1).near.length from by rw [mR.out.2.1]; exact NL.out);have SX:=J (show TL ((iE b (i1,i2)).1) from ⟨⟨fun x hx=>by rcases mR.out.2.2 x hx with h | h; exact SN.out.1.1 x h; rw [h]; exact TB.out,O8 SN.out.1.2 _⟩,Go.Proofs.YtkcfgbddlpomgaaGreat.Sb.Ep SN.out.2.1 _,by rw [mR.out.2.1]; exact SN.out.2.2⟩);go_wp2_with fail
      go_roundw
      case rel=>exact⟨i+1,(iE b (i1,i2)).1,o1,n1,c1,o2,n2,c2,o3,n3,c3,ea,en,ec,oa,lI,oc,hc,h12,by go_num,G1.out,Ga.out,Gb.out,G3.out,GN.out,Ii.out,MX.out,NX.out,SX.out⟩
      case measure=>simp [intOf]; omega
    ·have hx:n<=i\/(i<n/\12<=i):=by omega
     rcases hx with hx|⟨hx,hy⟩
     all_goals
      first | (have q1:¬ ((i:Int)<(n:Int)):=(by omega)) | (have q1:(i:Int)<(n:Int):=(by omega); have q2:¬ ((i:Int)<12):=(by omega))
      obtain⟨x0,x1⟩:=Mf.out.cs2;obtain⟨k0,k1,k2,k3,k4,k5⟩:=TP.out.eZ;obtain⟨r0,r1,r2,r3,r4,r5⟩:=zY.out.eZ;obtain⟨Bw,Bz,BD,BJ,BM,BP⟩:=zY.out.ku;have zz:=zY.out.lt;have GG:=J (dJ zY.out (Q U 0) (D o1 n1 c1) (D o2 n2 c2) (D o3 n3 c3) (D o4 n4 c4) (D o5 n5 c5));have BL:=J (dB (b:=w.heap.size+1) r9.out (by omega) (Q U 0) (D o1 n1 c1) (D o2 n2 c2) (D o3 n3 c3) (D o4 n4 c4) (D o5 n5 c5));have GN:=J (TQ.out.keep (s1:=(K,0,0)) (s2:=(K,0,0)) (s3:=(K,0,0)) (s4:=(K,0,0)) (s5:=(K,0,0)) zY.out (gq wr (w.heap.size+1) (Q U 0) (D o1 n1 c1) (D o2 n2 c2) (D o3 n3 c3) (D o4 n4 c4) (D o5 n5 c5)));have K12:KI 12 b:=⟨KK.out.ok,KK.out.pa,KK.out.pe,KK.out.po,KK.out.ln,O KK.out.ls Xe,O KK.out.la Xe,O KK.out.lo Xe,O KK.out.le (Nat.mul_le_mul_right 12 Xe)⟩;have KH:=J K12;clear K12;go_wp2_with fail;obtain⟨v0,v1,v2,v3,v4,v5⟩:=GG.out.eZ;refine bodyPost_ret (v:=.agg #[Q U 0,D o1 n1 c1,D o2 n2 c2,D o3 n3 c3,D o4 n4 c4,D o5 n5 c5]) (by simp [results,Tryz.results7,go_sem,v0,v1,v2,v3,v4,v5]) rfl ?_;refine⟨⟨b,o1,n1,c1,o2,n2,c2,o3,n3,c3,o4,n4,c4,o5,n5,c5,by rw [ME.out],GN.out,KH.out,NL.out,SN.out⟩,BL.out⟩
theorem mD {p:List C5} (h:dQ p):p.length<=5:=by
 obtain⟨a,na,rfl⟩:=h;rw [aN];exact na.five
theorem KI.few {b:Br} (h:KI 12 b):Py b:=⟨O h.ln (by decide),O h.la (by decide),O h.ls (by decide),O h.le (by decide),O h.lo (by decide)⟩
theorem KI.J2 {b:Br} (h:KI 12 b):xC b:=⟨fun a q=>O (mD (h.pa a q)) (by decide),fun a q=>O (mD (h.pe a q)) (by decide),fun a q=>O (mD (h.po a q)) (by decide)⟩
abbrev z5:C5:=(⟨#[]⟩,0,0,0,⟨#[]⟩)
abbrev c0 (b:Br) (z:Int):Br:={ b with near:=b.near++[z] }
abbrev c1 (b:Br):Br:={ b with dM:=b.dM++[⟨(99,0),[],-1⟩] }
abbrev c2 (b:Br):Br:={ b with ent:=b.ent++[⟨(98,0),(0,0),[],-1,aU⟩] }
abbrev c3 (b:Br):Br:={ b with own:=b.own++[⟨(-1,0),[]⟩,⟨(-1,0),[]⟩] }
abbrev c4 (b:Br):Br:={ b with seen:=b.seen++[(97,0),(97,0)] }
abbrev c5 (b:Br):Br:={ b with own:=[⟨(-5,0),[z5]⟩]++b.own }
end Av
namespace Ca
open Go.RowKit Go.Sort Rw YtkcfgbddlpomgaaGreat.Nm Pr Bk Av Rl Sb Fl
structure sV (b:Br):Prop where
 ok:jB b
 few:Py b
 J2:xC b
 pe:∀ e∈b.ent,dQ e.p
 po:∀ o∈b.own,dQ o.p
 cl:∀ o∈b.own,0<=o.id.1/\o.id.1<32
 np:∀ n∈b.near,n≠-1
theorem KI.afM {b:Br} (h:KI 12 b) (hs:KS b) (hn:b.near=(aW b.near.length).map fun (j:Nat)=>(j:Int)+1):sV b:=⟨h.ok,h.few,h.J2,h.pe,h.po,fun o ho=>by have:=hs.2 o ho; unfold K4 at this; omega,fun n hm=>by
 rw [hn] at hm;obtain⟨j,_,rfl⟩:=Z.1 hm;omega⟩
def AV (k:Int) (t x:eG) (l:List An) (ns:List Int):List (Ou×List An):=ns.map fun n=>(⟨n,k,t,x,[]⟩,l)
def Es (x:eG) (l:List An) (cs:List Int):List ((Int×eG)×List An):=cs.map fun c=>((c,x),l)
theorem TW (W:aJ):fK W (D K 0 0) []:=aP ⟨rfl,rfl⟩
theorem Ij {b:Br} (h:sV b) (t:eG) (l:List An):(toB b t l).Pairwise (·<·):=h.ok.near.sublist aG
theorem Xf {b:Br} (h:sV b) (t:eG) (l:List An):(toB b t l).length<=900:=O (Y _ _) h.few.near
theorem Mg {b:Br} (h:sV b) {t:eG} {l:List An} {e:En} (he:e∈b.ent) (ht:e.tree=t) (hf:e.from_≠-1) (hm:mh e.p l=aI):e.from_∈toB b t l:=by
 have h5:=h.ok.Ld e he;unfold uS at h5;cases hfa:fP b.dM e.tree with
 | none=>rw [hfa] at h5; cases h5
 | some a =>
  rw [hfa] at h5;simp only [ay] at h5;have h6:=h5.2.1;unfold jQ at h6;have h7:e.from_∈b.near:=by simpa [hf] using h6
  refine X.2 ⟨h7,aK.2 ⟨e,he,?_⟩⟩;unfold Wm;simp [ht,hm]
theorem Pb:Rb.Pairwise (·<·):=by decide
theorem Ik {n:Int}:n∈Rb↔0<=n/\n<32:=by
 unfold Rb;rw [Z];constructor
 ·rintro⟨j,hj,rfl⟩; have:=aQ.1 hj; omega
 ·rintro⟨h1,h2⟩; exact⟨n.toNat,aQ.2 (by omega),by omega⟩
theorem wN (b:Br) (l:List An):(rO b l).Pairwise (·<·):=Pb.sublist aG
theorem Il (b:Br) (l:List An):(rO b l).length<=32:=O (Y _ _) (by simp [Rb])
theorem Im {b:Br} (h:sV b) {l:List An} {n:Int}:n∈rO b l↔∃ o∈b.own,o.id.1=n/\mh o.p l=aI:=by
 unfold rO;rw [X,Ik,aK];constructor
 ·rintro⟨_,o,h1,h2⟩;unfold aaN at h2;simp only [ay,decide_eq_true_eq] at h2;exact⟨o,h1,h2⟩
 ·rintro⟨o,h1,h2,h3⟩;exact⟨by rw [<- h2]; exact h.cl o h1,o,h1,by unfold aaN; simp [h2,h3]⟩
def og (m:List En) (l:List An):List Int:=(m.filter fun e=>!decide (e.from_=-1) && mh e.p l).map (·.from_)
def oh (m:List Ow) (l:List An):List Int:=(m.filter fun o=>mh o.p l).map fun o=>o.id.1
theorem Pf {b:Br} (h:sV b) {t:eG} {l:List An} {n:Int}:n∈og (qF b.ent t) l↔n∈toB b t l:=by
 unfold og;rw [Z];constructor
 ·rintro⟨e,he,rfl⟩;obtain⟨h1,h2⟩:=X.1 he;simp only [ay,aR,decide_eq_false_iff_not] at h2;obtain⟨h3,h4⟩:=(JM (show kg b.ent from h.ok.ent) t e).1 h1;exact Mg h h3 h4 h2.1 h2.2
 ·intro hn;obtain⟨h1,h2⟩:=X.1 hn;obtain⟨e,h3,h4⟩:=aK.1 h2;unfold Wm at h4;simp only [ay,decide_eq_true_eq] at h4;refine⟨e,X.2 ⟨(JM (show kg b.ent from h.ok.ent) t e).2 ⟨h3,h4.1⟩,?_⟩,h4.2.1⟩;simp only [ay,aR,decide_eq_false_iff_not];exact⟨by rw [h4.2.1]; exact h.np n h1,h4.2.2⟩
theorem Pg {b:Br} (h:sV b) {l:List An} {n:Int}:n∈oh b.own l↔n∈rO b l:=by
 rw [Im h];unfold oh;rw [Z];constructor
 ·rintro⟨o,ho,rfl⟩;obtain⟨h1,h2⟩:=X.1 ho;exact⟨o,h1,rfl,h2⟩
 ·rintro⟨o,h1,h2,h3⟩;exact⟨o,X.2 ⟨h1,h3⟩,h2⟩
theorem Da (m:List En) (l:List An):(og m l).length<=m.length:=by
 unfold og;rw [aN];exact Y _ _
theorem Db (m:List Ow) (l:List An):(oh m l).length<=m.length:=by
 unfold oh;rw [aN];exact Y _ _
theorem nK {α:Type} (m:List α) (k:Nat) (e:α) (he:m[k]?=aH e):m.take (k+1)=m.take k++[e]:=by
 rw [List.take_add_one,he]
 rfl
theorem Ph {m:List En} {l:List An} {k:Nat} {e:En} (he:m[k]?=aH e) (hf:e.from_≠-1) (hh:mh e.p l=aI):og (m.take (k+1)) l=og (m.take k) l++[e.from_]:=by
 unfold og;rw [nK m k e he,aA,aj,aL (by simp [hf,hh])]
 rfl
theorem Io {m:List En} {l:List An} {k:Nat} {e:En} (he:m[k]?=aH e) (hf:e.from_=-1\/mh e.p l=aU):og (m.take (k+1)) l=og (m.take k) l:=by
 unfold og;rw [nK m k e he,aA,aj,aM (by rcases hf with h | h <;> simp [h])];simp
theorem Pj {m:List Ow} {l:List An} {k:Nat} {e:Ow} (he:m[k]?=aH e) (hh:mh e.p l=aI):oh (m.take (k+1)) l=oh (m.take k) l++[e.id.1]:=by
 unfold oh;rw [nK m k e he,aA,aj,aL (by simp [hh])]
 rfl
theorem TY {m:List Ow} {l:List An} {k:Nat} {e:Ow} (he:m[k]?=aH e) (hh:mh e.p l=aU):oh (m.take (k+1)) l=oh (m.take k) l:=by
 unfold oh;rw [nK m k e he,aA,aj,aM (by simp [hh])];simp
theorem adC {b:Br} (h:sV b) {t:eG} {l:List An} {r:List Int} (hr:r.Pairwise (·<·)) (hm:∀ x,x∈r↔x∈og (qF b.ent t) l):r=toB b t l :=
 sM hr (Ij h t l) fun x=>(hm x).trans (Pf h)
theorem adD {b:Br} (h:sV b) {l:List An} {r:List Int} (hr:r.Pairwise (·<·)) (hm:∀ x,x∈r↔x∈oh b.own l):r=rO b l :=
 sM hr (wN b l) fun x=>(hm x).trans (Pg h)
def Mh (W:aJ) (B:Nat) (x:mU) (o:Ou×List An):Prop:=x.1=o.1.gH/\x.2.1=o.1.kind/\(x.2.2.1,x.2.2.2.1)=o.1.tree/\(x.2.2.2.2.1,x.2.2.2.2.2.1)=o.1.id/\x.2.2.2.2.2.2.1=(K,0,0)/\o.1.p=[]/\DF W B (dP x.2.2.2.2.2.2.2) o.2
theorem Mh.on {W W':aJ} {B:Nat} {x:mU} {o:Ou×List An} (h:Mh W B x o) (hb:Below W.heap.size W W'):Mh W' B x o:=⟨h.1,h.2.1,h.2.2.1,h.2.2.2.1,h.2.2.2.2.1,h.2.2.2.2.2.1,Bk.dx h.2.2.2.2.2.2 hb⟩
theorem Mh.app {W W':aJ} {B B':Nat} {x:mU} {o:Ou×List An} {v:aV} {l:List mU} (h:Mh W B x o) (ho:iZ W B' v l) (gr:W.grownBy W' v.ownBlock):Mh W' B x o:=⟨h.1,h.2.1,h.2.2.1,h.2.2.2.1,h.2.2.2.2.1,h.2.2.2.2.2.1,Ej ho gr h.2.2.2.2.2.2 (by decide)⟩
theorem Mh.a {W:aJ} {B:Nat} {x:mU} {o:Ou×List An} (h:Mh W B x o):Ym W x o:=⟨h.1,h.2.1,h.2.2.1,h.2.2.2.1,by rw [h.2.2.2.2.1,h.2.2.2.2.2.1]; exact TW W,Row.dw h.2.2.2.2.2.2⟩
def IU (W:aJ) (B:Nat) (x:yX) (o:(Int×eG)×List An):Prop:=x.1=o.1.1/\(x.2.1,x.2.2.1)=o.1.2/\DF W B (dP x.2.2.2) o.2
theorem IU.on {W W':aJ} {B:Nat} {x:yX} {o:(Int×eG)×List An} (h:IU W B x o) (hb:Below W.heap.size W W'):IU W' B x o:=⟨h.1,h.2.1,Bk.dx h.2.2 hb⟩
theorem IU.app {W W':aJ} {B B':Nat} {x:yX} {o:(Int×eG)×List An} {v:aV} {l:List yX} (h:IU W B x o) (ho:Gf W B' v l) (gr:W.grownBy W' v.ownBlock):IU W' B x o:=⟨h.1,h.2.1,Ej ho gr h.2.2 (by decide)⟩
theorem IU.a {W:aJ} {B:Nat} {x:yX} {o:(Int×eG)×List An} (h:IU W B x o):DlA W x o:=⟨h.1,h.2.1,Row.dw h.2.2⟩
theorem abo {wr w0:aJ} {B:Nat} {v:aV} {lx:List mU} {L:List (Ou×List An)} (x:mU) (o:Ou×List An) (ho:iZ wr B v lx) (hA:eu (Mh wr B) lx L) (hx:Mh wr B x o) (hn:lx.length<=1000) (hB:B<=wr.heap.size) (hb:Below B w0 wr) :
  ∃ v' w',(Builtin.append_ #[44,44] 44 #[v,D (aH ⟨wr.heap.size,0,K⟩) 1 1]).run Tryz.prog (wr.alloc (aF (jP x).toArray 58))=.ok v' w'/\iZ w' B v' (lx++[x])/\eu (Mh w' B) (lx++[x]) (L++[o])/\Below B w0 w':=by
 have NB:=fO wr (aF (jP x).toArray 58);have hlit:=gZ FR wr [x] 1 rfl (by simp) (jP x).toArray rfl;have o1:iZ (wr.alloc (aF (jP x).toArray 58)) B v lx:=Bk.dx ho NB;obtain⟨v',w',r',o',g'⟩:=fT FR B o1 (Row.dw hlit) hn (by simp) (O hB NB.size) 44;have g:∀ y z,Mh wr B y z->Mh w' B y z:=fun y z q=>(q.on NB).app o1 g';exact⟨v',w',r',o',(hA.mono g).append (.cons (g _ _ hx) .nil),(hb.trans (NB.mono hB)).grown g' (O hB NB.size) fun j hj=>(o1.lt j hj).1⟩
theorem Pk {k:Int} {t x:eG} {l:List An} {ns:List Int} {q:Nat} {n:Int} (h:ns[q]?=aH n):AV k t x l (ns.take (q+1))=AV k t x l (ns.take q)++[(⟨n,k,t,x,[]⟩,l)]:=by
 unfold AV;rw [nK ns q n h,aj]
 rfl
theorem Pm {x:eG} {l:List An} {ns:List Int} {q:Nat} {n:Int} (h:ns[q]?=aH n):Es x l (ns.take (q+1))=Es x l (ns.take q)++[((n,x),l)]:=by
 unfold Es;rw [nK ns q n h,aj]
 rfl
theorem T9 {b:Br} {f:Int} {t:eG} {l:List An} (h:fP b.dM t=K):jX b f t l=([],[]):=by
 have h:(b.dM.find? fun a=>decide (a.id=t))=K:=h;unfold jX;rw [h]
theorem J3 {b:Br} {f:Int} {t:eG} {l:List An} {a:Ad} (h:fP b.dM t=aH a) (hf:a.par≠f):jX b f t l=([],[]):=by
 have h:(b.dM.find? fun a=>decide (a.id=t))=aH a:=h;unfold jX;rw [h];exact if_neg hf
theorem Ua {b:Br} {f:Int} {t:eG} {l:List An} {a:Ad} (h:fP b.dM t=aH a) (hf:a.par=f):jX b f t l=(toB b t l,rO b l):=by
 have h:(b.dM.find? fun a=>decide (a.id=t))=aH a:=h;unfold jX;rw [h];exact if_pos hf
theorem Xg {wr w0:aJ} {B:Nat} {v r:aV} {lx:List yX} {L:List ((Int×eG)×List An)} (x:yX) (o:(Int×eG)×List An) (ho:Gf wr B v lx) (hr:aaM wr r [x]) (hA:eu (IU wr B) lx L) (hx:IU wr B x o) (hn:lx.length<=1000) (hB:B<=wr.heap.size) (hb:Below B w0 wr) :
  ∃ v' w',(Builtin.append_ #[45,45] 45 #[v,r]).run Tryz.prog wr=.ok v' w'/\Gf w' B v' (lx++[x])/\eu (IU w' B) (lx++[x]) (L++[o])/\Below B w0 w':=by
 obtain⟨v',w',r',o',g'⟩:=fT okG B ho hr hn (by simp) hB 45;have g:∀ y z,IU wr B y z->IU w' B y z:=fun y z q=>q.app ho g';exact⟨v',w',r',o',(hA.mono g).append (.cons (g _ _ hx) .nil),hb.grown g' hB fun j hj=>(ho.lt j hj).1⟩
theorem zZ {W:aJ} {lx:List mU} {k:Int} {t x:eG} {l:List An} {ns:List Int} (h:eu (Ym W) lx (AV k t x l ns)):lx.length=ns.length:=by rw [h.len]; simp [AV]
theorem Ip {W:aJ} {lx:List yX} {x:eG} {l:List An} {ns:List Int} (h:eu (DlA W) lx (Es x l ns)):lx.length=ns.length:=by rw [h.len]; simp [Es]
end Ca
end Go.Proofs.YtkcfgbddlpomgaaGreat
