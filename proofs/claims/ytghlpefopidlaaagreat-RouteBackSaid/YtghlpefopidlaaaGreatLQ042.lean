/-
  A broker that the st. Conditions as told.
-/
import Derived.Test.YtghlpefopidlaaaGreatLQ031
import Derived.Test.YtghlpefopidlaaaGreatLQ040
import Derived.Test.YtghlpefopidlaaaGreatLQ041
set_option maxRecDepth 100000
set_option maxHeartbeats 64000000
open _root_.Bool renaming true->aA,false->aI,and_eq_true->aY
open _root_.Go renaming World->au,Value->aC,Calls->bg
open Go.DataW renaming trod->Q,trod_int->ah,trod_struct->aH
open Go.Ending renaming returned->V
open Go.IntKind renaming i64->aN
open Go.Lib renaming hid->K
open Go.Proofs.Tryz renaming prog->L,underlying3->U,underlying50->aX,func111->bf
open Go.Value renaming slice->aG,pointer->aK,int->aR,bool->aW
open _root_.List renaming getElem?_eq_getElem->J,getElem?_eq_some_iff->ak,mem_filter->ay,mem_of_getElem?->aB,drop_succ_cons->aD,take_succ_cons->aF,getElem?_cons_zero->aJ,mem_map->aL,length_map->aP,length_filter_le->aQ,drop_zero->aS,take_zero->aT,takeWhile_cons->aU,mem_append->aZ
open _root_.Nat renaming le_refl->O,le_succ_of_le->Z,le_trans->aM
open _root_.Option renaming some->aj,none->aV
open Option.some renaming inj->aO
namespace Go.Proofs.YtghlpefopidlaaaGreat
namespace Av
open Go.RowKit Go.Sort Rw YtghlpefopidlaaaGreat.Nm Pr Bk
theorem Rk {b:Br} (h:iC b) (t x:eU) (f:Int):iC (jI b t x f).1:=by
 rw [jR];exact acM h t x f
theorem xH {b:Br} (h:iC b) (x:eU):∀ k,k<=b.dO.length->iC (gX b x k).1
 | 0,_=>⟨h.near,h.seen,h.dO,h.ent,h.own.sublist List.filter_sublist,h.oks,fun e he=>tN (b:=b) rfl rfl (h.QH e he),fun o ho=>h.oko o ((ay.1 ho).1)⟩
 | k+1,hk=>by
  obtain⟨a,ha⟩:∃ a,b.dO[k]?=aj a:=⟨_,J hk⟩;rw [lg b x ha];exact Rk (xH h x k (by omega)) _ _ _
theorem Vm {b:Br} (h:iC b) (x:eU):iC (fT b x).1:=by
 unfold fT
 split
 ·exact h
 ·exact xH h x _ (O _)
theorem tV {α:Type} {l:List α} {f:Br×List Ou->α->Br×List Ou} {s0:Br×List Ou} (P:Br->Prop) (h0:P s0.1) (hs:∀ s a,a∈l->P s.1->P (f s a).1):∀ k,k<=l.length->P (eT l f s0 k).1
 | 0,_=>h0
 | k+1,hk=>by
  obtain⟨a,ha⟩:∃ a,l[k]?=aj a:=⟨_,J hk⟩;rw [lW f s0 ha];exact hs _ a (aB ha) (tV P h0 hs k (by omega))
theorem step_ok {s:Br×List Ou} (h:iC s.1) (mt:Bool) (e:En) (t:Int) (hc:lT s.1.near e.from_=aA) (hq:Wr.iW e.p=aA):iC (gW s mt e t).1:=by
 unfold gW
 split
 ·exact h
 ·exact YM h e hc hq
theorem qz (l:List Int):lT l (-1)=aA:=by simp [lT]
theorem aiF {b:Br} (h:iC b) (f:Int) (x:eU) (p:List C5) (hc:lT b.near f=aA) (hq:Wr.iW p=aA):iC (mI b f x p).1:=by
 have hl:=Lc h ⟨x,p,f⟩ hc hq;unfold mI
 split
 ·exact hl
 ·refine tV iC hl (fun s o ho hs=>step_ok hs _ _ _ (qz _) ?_) _ (O _);rw [(lI b ⟨x,p,f⟩).2.2.2] at ho;exact h.oko o ho
theorem Ig {l:List Ow} (hr:kS Ow.id l) {x:eU} (h:¬ (l[fC (l.map Ow.id) x]?).map Ow.id=aj x):∀ y∈l,y.id≠x:=by
 intro y hy e;apply h;rw [<- iK];have ht:iG Ow.id l x=aA:=by
  rw [ze hr];exact decide_eq_true (aL.2 ⟨y,hy,e⟩)
 unfold iG at ht;cases hg:l[fJ Ow.id l x]? with
 | none=>rw [hg] at ht; cases ht
 | some z =>
  rw [hg] at ht;rw [Option.map_some,of_decide_eq_true ht]
theorem Rm {b:Br} (h:iC b) (x:eU) (p:List C5) (hq:Wr.iW p=aA):iC (fF b x p).1:=by
 unfold fF
 split
 ·exact h
 ·rename_i hn
  have hi:iC (ownIn b x p):=by
   have hr:kS Ow.id (fM b.own (fC (b.own.map Ow.id) x) ⟨x,p⟩):=by
    rw [<- iK];exact kg h.own ⟨x,p⟩ (Ig h.own hn)
   exact⟨h.near,h.seen,h.dO,h.ent,hr,h.oks,fun e he=>tN (b:=b) rfl rfl (h.QH e he),fun o ho=>by
    rcases (jM _ _ _ _).1 ho with rfl|ho
    ·exact hq
    ·exact h.oko o ho⟩
  exact tV iC hi (fun s a _ hs=>step_ok hs _ _ _ (qz _) hq) _ (O _)
structure KI (i:Nat) (b:Br):Prop where
 ok:iC b
 pa:∀ a∈b.dO,dR a.p
 pe:∀ e∈b.ent,dR e.p
 po:∀ o∈b.own,dR o.p
 ln:b.near.length<=4
 ls:b.seen.length<=i
 la:b.dO.length<=i
 lo:b.own.length<=i
 le:b.ent.length<=i * 12
theorem KI.kn {i:Nat} {b:Br} (h:KI i b):∀ e∈b.ent,e.tree∈b.dO.map Ad.id:=fun e he=>by
 have h1:=h.ok.QH e he;unfold zF at h1;cases hf:gJ b.dO e.tree with
 | none=>rw [hf] at h1; cases h1
 | some a =>
  obtain⟨q1,q2⟩:=om hf;exact aL.2 ⟨a,q1,q2⟩
theorem KI.more {i:Nat} {b:Br} (h:KI i b):KI (i+1) b:=⟨h.ok,h.pa,h.pe,h.po,h.ln,Z h.ls,Z h.la,Z h.lo,by have:=h.le; omega⟩
theorem Vn (b:Br) (a:Ad):∀ y∈(fQ b a).1.dO,y=a\/y∈b.dO:=by
 unfold fQ
 split
 ·exact fun y hy=>Or.inr hy
 ·exact fun y hy=>(jM _ _ _ _).1 hy
theorem KI.dO {i:Nat} {b:Br} (h:KI i b) (hi:i<12) (f:Int) (x:eU) (p:List C5) (hc:lT b.near f=aA) (hq:Wr.iW p=aA) (hp:dR p):KI (i+1) (mI b f x p).1:=by
 have hok:=aiF h.ok f x p hc hq;obtain⟨m1,m2,m3,m4⟩:=lI b ⟨x,p,f⟩;obtain⟨n1,n2⟩:=Ic b ⟨x,p,f⟩;have lm:=Vn b ⟨x,p,f⟩;have hpa:∀ a∈(fQ b ⟨x,p,f⟩).1.dO,dR a.p:=fun a ha=>by
  rcases lm a ha with rfl|ha
  ·exact hp
  ·exact h.pa a ha
 have h1:=h.ls;have h2:=h.la;have h3:=h.lo;have h4:=h.le;revert hok;unfold mI
 split
 ·intro hok;exact⟨hok,hpa,by rw [m3]; exact h.pe,by rw [m4]; exact h.po,by rw [m2]; exact h.ln,aM n2 (by omega),aM n1 (by omega),by rw [m4]; omega,by rw [m3]; omega⟩
 ·intro hok;obtain⟨q1,q2,_⟩:=kW (l:=(fQ b ⟨x,p,f⟩).1.own) (b0:=(fQ b ⟨x,p,f⟩).1) (o0:=iq b.near f 1 x (0,0) p) (fun o=>fU o.p p) (fun o=>Dw x o) (fun _=>f) (fun e=>dR e.p) (by rw [m3]; exact h.pe) (fun o ho _=>by rw [m4] at ho; exact h.po o ho) _ (O _);refine⟨hok,?_,q2,?_,?_,?_,?_,?_,?_⟩
  ·intro a ha;rw [show (eT _ (o8 f x p) _ _).1.dO=_ from q1.dO] at ha;exact hpa a ha
  ·intro o ho;rw [show (eT _ (o8 f x p) _ _).1.own=_ from q1.own,m4] at ho;exact h.po o ho
  ·rw [show (eT _ (o8 f x p) _ _).1.near=_ from q1.near,m2];exact h.ln
  ·rw [show (eT _ (o8 f x p) _ _).1.seen=_ from q1.seen];omega
  ·rw [show (eT _ (o8 f x p) _ _).1.dO=_ from q1.dO];omega
  ·rw [show (eT _ (o8 f x p) _ _).1.own=_ from q1.own,m4];omega
  ·have q3:=q1.len;rw [m3,m4] at q3;refine aM (show (eT _ (o8 f x p) _ _).1.ent.length<=_ from by rw [m4]; exact q3) ?_;omega
theorem KI.subs {i:Nat} {b:Br} (h:KI i b) (hi:i<12) (x:eU) (p:List C5) (hq:Wr.iW p=aA) (hp:dR p):KI (i+1) (fF b x p).1:=by
 have hok:=Rm h.ok x p hq;have h1:=h.ls;have h2:=h.la;have h3:=h.lo;have h4:=h.le;revert hok;unfold fF
 split
 ·intro hok;exact h.more
 ·intro hok;obtain⟨q1,q2,_⟩:=kW (l:=b.dO) (b0:=ownIn b x p) (o0:=[]) (fun a=>fU p a.p) (fun a=>jm x p a) (fun a=>a.par) (fun e=>dR e.p) h.pe (fun o ho _=>hp) _ (O _);refine⟨hok,?_,q2,?_,?_,?_,?_,?_,?_⟩
  ·intro a ha;rw [show (eT _ (iA x p) _ _).1.dO=_ from q1.dO] at ha;exact h.pa a ha
  ·intro o ho;rw [show (eT _ (iA x p) _ _).1.own=_ from q1.own] at ho;rcases (jM _ _ _ _).1 ho with rfl|ho
   ·exact hp
   ·exact h.po o ho
  ·rw [show (eT _ (iA x p) _ _).1.near=_ from q1.near];exact h.ln
  ·rw [show (eT _ (iA x p) _ _).1.seen=_ from q1.seen];show b.seen.length<=_;omega
  ·rw [show (eT _ (iA x p) _ _).1.dO=_ from q1.dO];show b.dO.length<=_;omega
  ·rw [show (eT _ (iA x p) _ _).1.own=_ from q1.own];show (fM _ _ _).length<=_;rw [sF];omega
  ·have q3:=q1.len;have q4:(ownIn b x p).ent.length=b.ent.length:=rfl;refine aM (show (eT _ (iA x p) _ _).1.ent.length<=_ from q3) ?_;omega
theorem KI.aiG {i:Nat} {b:Br} (h:KI i b) (x:eU):KI (i+1) (fT b x).1:=by
 have hok:=Vm h.ok x;have h1:=h.ls;have h2:=h.la;have h3:=h.lo;have h4:=h.le;revert hok;unfold fT
 split
 ·intro hok;exact h.more
 ·intro hok;have q1:=(qy b x b.dO.length (O _)).1;refine⟨hok,by rw [q1.dO]; exact h.pa,qK b x (fun e=>dR e.p) (fun _ h=>h) h.pe _ (O _),?_,by rw [q1.near]; exact h.ln,by rw [q1.seen]; omega,by rw [q1.dO]; omega,?_,by have:=q1.len; omega⟩
  ·rw [q1.own];exact fun o ho=>h.po o ((ay.1 ho).1)
  ·rw [q1.own];have h5:=aQ (fun o:Ow=>decide (o.id≠x)) b.own;unfold lM;omega
theorem KI.drop {i:Nat} {b:Br} (h:KI i b) (t x:eU) (f:Int):KI (i+1) (jI b t x f).1:=by
 have hok:=Rk h.ok t x f;have h1:=h.ls;have h2:=h.la;have h3:=h.lo;have h4:=h.le;rw [jR] at hok ⊢;obtain⟨m1,m2,_,m4,m5⟩:=jP b t x f;exact⟨hok,by rw [m1]; exact h.pa,(zL t x f (fun e=>dR e.p) (fun _ _ h=>h) h.pe).1,by rw [m5]; exact h.po,by rw [m2]; exact h.ln,by rw [m4]; omega,by rw [m1]; omega,by rw [m5]; omega,by have:=(qw b t x f).1; omega⟩
theorem KI.akN {i:Nat} {b:Br} (h:KI i b) (f:Int) (t x:eU) (p:List C5) (hc:lT b.near f=aA) (hq:Wr.iW p=aA) (hp:dR p):KI (i+1) (mE b f t x p).1:=by
 have hok:=YM h.ok ⟨t,x,p,f,aI⟩ hc hq;have h1:=h.ls;have h2:=h.la;have h3:=h.lo;have h4:=h.le;rw [sH];obtain⟨_,m2,m1,m4,m5⟩:=jO b ⟨t,x,p,f,aI⟩;exact⟨hok,by rw [m1]; exact h.pa,Dv (fun e=>dR e.p) h.pe (fun _=>hp),by rw [m5]; exact h.po,by rw [m2]; exact h.ln,by rw [m4]; omega,by rw [m1]; omega,by rw [m5]; omega,by have:=Lu b ⟨t,x,p,f,aI⟩; omega⟩
theorem KI.forget {i:Nat} {b:Br} (h:KI i b) (x:eU) (f:Int):KI (i+1) (iQ b x f).1:=by
 have hok:=Uu h.ok x f;rw [CK h.ok.dO] at hok;have h1:=h.ls;have h2:=h.la;have h3:=h.lo;have h4:=h.le;revert hok;unfold iQ
 split
 ·exact fun _=>h.more
 ·split
  ·exact fun _=>h.more
  ·split
   ·intro hok;exact⟨hok,fun a ha=>h.pa a (pW ha),fun e he=>h.pe e ((ay.1 he).1),h.po,h.ln,Z h1,by have h5:=(tQ b.dO (fO (b.dO.map Ad.id) x).toNat).length_le; show (cutAt _ _).length<=_; omega,Z h3,by have h5:=aQ (fun e:En=>decide (e.tree≠x)) b.ent; show (List.filter _ _).length<=_; omega⟩
   ·exact fun _=>h.more
theorem Pk (l:List Int) (n:Int):lT l (Hq l n)=aA:=by
 unfold Hq;cases h:l[(Wi.within n 0 l.length).toNat]? with
 | none=>exact qz l
 | some z =>
  have:=aB h;simp [lT,this]
abbrev KS (b:Br):Prop:=(∀ e∈b.ent,e.sub.1<=4)/\∀ o∈b.own,o.id.1<=4
theorem ZJ {b:Br} (h:KS b) (e:En) (he:e.sub.1<=4):KS (iB b e).1:=by
 unfold iB
 split
 ·exact h
 ·split
  ·exact h
  ·split
   ·exact h
   ·split
    ·exact h
    ·refine⟨fun z hz=>?_,h.2⟩;rcases (jM _ _ _ _).1 hz with rfl|hz
     ·exact he
     ·exact h.1 z hz
theorem Mq {s:Br×List Ou} (h:KS s.1) (mt:Bool) (e:En) (t:Int) (he:e.sub.1<=4):KS (gW s mt e t).1:=by
 unfold gW
 split
 ·exact h
 ·exact ZJ h e he
theorem JF {b:Br} (h:KS b) (f:Int) (x:eU) (p:List C5):KS (mI b f x p).1:=by
 have hs:=lI b ⟨x,p,f⟩;have hl:KS (fQ b ⟨x,p,f⟩).1:=⟨by rw [hs.2.2.1]; exact h.1,by rw [hs.2.2.2]; exact h.2⟩;unfold mI
 split
 ·exact hl
 ·refine tV KS hl (fun s o ho hs2=>Mq hs2 _ _ _ ?_) _ (O _);rw [hs.2.2.2] at ho;exact h.2 o ho
theorem acY {b:Br} (h:KS b) (x:eU) (p:List C5) (hx:x.1<=4):KS (fF b x p).1:=by
 unfold fF
 split
 ·exact h
 ·have hi:KS (ownIn b x p):=⟨h.1,fun o ho=>by
   rcases (jM _ _ _ _).1 ho with rfl|ho
   ·exact hx
   ·exact h.2 o ho⟩
  exact tV KS hi (fun s a _ hs=>Mq hs _ _ _ hx) _ (O _)
theorem Rn {b:Br} (h:KS b) (t x:eU) (f:Int):KS (takeB b t x f).1:=by
 unfold takeB
 split
 ·exact h
 ·split
  ·exact h
  ·split
   ·exact h
   ·split
    ·exact⟨fun e he=>h.1 e (pW he),h.2⟩
    ·refine⟨fun e he=>?_,h.2⟩;have hk:dY e∈(iN t (cutAt b.ent (jc (b.ent.map dY) (t,x)).toNat) (cutAt b.ent (jc (b.ent.map dY) (t,x)).toNat).length).1.map dY:=aL.2 ⟨e,he,rfl⟩;rw [xG] at hk;obtain⟨z,hz,hk2⟩:=aL.1 hk;have h3:=h.1 z (pW hz);rw [<- show z.sub=e.sub from congrArg Prod.snd hk2];exact h3
theorem Ih {b:Br} (h:KS b) (x:eU):∀ k,k<=b.dO.length->KS (gX b x k).1
 | 0,_=>⟨h.1,fun o ho=>h.2 o ((ay.1 ho).1)⟩
 | k+1,hk=>by
  obtain⟨a,ha⟩:∃ a,b.dO[k]?=aj a:=⟨_,J hk⟩;rw [lg b x ha];show KS (jI _ _ _ _).1;rw [jR];exact Rn (Ih h x k (by omega)) _ _ _
theorem Vo {b:Br} (h:KS b) (x:eU):KS (fT b x).1:=by
 unfold fT
 split
 ·exact h
 ·exact Ih h x _ (O _)
theorem Bp {b:Br} (h:KS b) (f mk:Int) (t x:eU) (p:List C5) (hx:x.1<=4):KS (lC b f mk t x p).1:=by
 unfold lC
 split
 ·exact JF h f t p
 ·split
  ·show KS (iQ b t f).1;unfold iQ
   split
   ·exact h
   ·split
    ·exact h
    ·split
     ·exact⟨fun e he=>h.1 e ((ay.1 he).1),h.2⟩
     ·exact h
  ·split
   ·rw [sH]; exact ZJ h _ hx
   ·rw [jR]; exact Rn h _ _ _
abbrev SnK (b:Br):Prop:=(∀ x∈b.seen,x.1<=2)/\KS b
end Av
namespace Sb
open Go.RowKit Go.Sort Rw YtghlpefopidlaaaGreat.Nm Pr Bk Av
theorem Pm {s:Br×List Ou} (h:iC s.1) (ht:ig s.1) (mt:Bool) (e:En) (t:Int):ig (gW s mt e t).1:=by
 unfold gW
 split
 ·exact ht
 ·exact He h e ht
theorem DY {α:Type} {l:List α} (mt:α->Bool) (e:α->En) (t:α->Int) {s0:Br×List Ou} (h:iC s0.1) (ht:ig s0.1) (hc:∀ s:Br×List Ou,∀ a∈l,iC s.1->iC (gW s (mt a) (e a) (t a)).1) (k:Nat) (hk:k<=l.length):ig (eT l (fun s a=>gW s (mt a) (e a) (t a)) s0 k).1 :=
 (tV (fun b=>iC b/\ig b) ⟨h,ht⟩ (fun s a ha hs=>⟨hc s a ha hs.1,Pm hs.1 hs.2 _ _ _⟩) k hk).2
theorem wD {b:Br} (h:iC b) (ht:ig b) (f:Int) (x:eU) (p:List C5) (hc:lT b.near f=aA) (hq:Wr.iW p=aA):ig (mI b f x p).1:=by
 have hl:=Lc h ⟨x,p,f⟩ hc hq;have hlt:=Lf h ⟨x,p,f⟩ ht;unfold mI
 split
 ·exact hlt
 ·exact DY (s0:=((fQ b ⟨x,p,f⟩).1,iq b.near f 1 x (0,0) p)) (fun o=>fU o.p p) (fun o=>Dw x o) (fun _=>f) hl hlt (fun s o ho hs=>step_ok hs _ _ _ (qz _) (hl.oko o ho)) _ (O _)
theorem D5 {b:Br} (h:iC b) (ht:ig b) (x:eU) (p:List C5) (hq:Wr.iW p=aA):ig (fF b x p).1:=by
 unfold fF
 split
 ·exact ht
 ·rename_i hn
  have hi:iC (ownIn b x p):=by
   have hr:kS Ow.id (fM b.own (fC (b.own.map Ow.id) x) ⟨x,p⟩):=by
    rw [<- iK];exact kg h.own ⟨x,p⟩ (Ig h.own hn)
   exact⟨h.near,h.seen,h.dO,h.ent,hr,h.oks,fun e he=>tN (b:=b) rfl rfl (h.QH e he),fun o ho=>by
    rcases (jM _ _ _ _).1 ho with rfl|ho
    ·exact hq
    ·exact h.oko o ho⟩
  exact DY (s0:=(ownIn b x p,[])) (fun a=>fU p a.p) (fun a=>jm x p a) (fun a=>a.par) hi (show ig (ownIn b x p) from ht) (fun s a _ hs=>step_ok hs _ _ _ (qz _) hq) _ (O _)
theorem yM {b:Br} (ht:ig b) (x:eU):∀ k,k<=b.dO.length->ig (gX b x k).1
 | 0,_=>ht
 | k+1,hk=>by
  obtain⟨a,ha⟩:∃ a,b.dO[k]?=aj a:=⟨_,J hk⟩;rw [lg b x ha];show ig (jI _ _ _ _).1;rw [jR];exact Db _ _ _ (yM ht x k (by omega))
theorem JG {b:Br} (ht:ig b) (x:eU):ig (fT b x).1:=by
 unfold fT
 split
 ·exact ht
 ·exact yM ht x _ (O _)
theorem rF {b:Br} (h:iC b) (ht:ig b) (f mk:Int) (t x:eU) (p:List C5) (hc:lT b.near f=aA) (hq:Wr.iW p=aA):ig (lC b f mk t x p).1:=by
 unfold lC
 split
 ·exact wD h ht f t p hc hq
 ·split
  ·show ig (iQ b t f).1;rw [<- CK h.dO];exact Jj t f ht
  ·split
   ·rw [sH]; exact He h _ ht
   ·rw [jR]; exact Db _ _ _ ht
end Sb
namespace Rt
open Go.RowKit Go.Sort Rw YtghlpefopidlaaaGreat.Nm Pr Bk Av Sb
theorem Vp {α:Type} (key:α->eU) (l:List α) (x:eU) (j:Nat) (y:α) (hj:j<fJ key l x) (hy:l[j]?=aj y):eH (key y) x=aA:=by
 have ht:(l.takeWhile fun a=>eH (key a) x)[j]?=aj y:=by
  obtain⟨t,ht⟩:=List.takeWhile_prefix (fun a=>eH (key a) x) (l:=l);rw [<- ht,List.getElem?_append_left hj] at hy;exact hy
 exact List.all_eq_true.1 List.all_takeWhile y (aB ht)
theorem Ii {α:Type} (key:α->eU) (x:eU):∀ (m:List α) (y:α),m[fJ key m x]?=aj y->eH (key y) x=aI
 | [],_,h=>by simp [fJ] at h
 | a::m,y,h=>by
  unfold fJ at h;cases ha:eH (key a) x with
  | true =>
   simp only [aU,ha,if_true,List.length_cons,List.getElem?_cons_succ] at h;exact Ii key x m y h
  | false =>
   simp only [aU,ha,Bool.false_eq_true,if_false,List.length_nil,aJ] at h;rw [<- aO h];exact ha
theorem zO {α:Type} (key:α->eU) (l:List α) (x:eU):fJ key l x<=l.length:=(List.takeWhile_sublist _).length_le
theorem Vq {α:Type} {key:α->eU} {l:List α} (hr:kS key l) (x:eU) {i:Nat} {e:α} (hi:fJ key l x<=i) (he:l[i]?=aj e):eH (key e) x=aI:=by
 have hlt:=(ak.1 he).1;obtain⟨z,hz⟩:∃ z,l[fJ key l x]?=aj z:=⟨_,J (by omega)⟩;have h0:=Ii key x l z hz;rcases Nat.lt_or_ge (fJ key l x) i with h|h
 ·have h1:=kU hr h hz he;cases hq:eH (key e) x with
  | false=>rfl
  | true=>rw [iV h1 hq] at h0; cases h0
 ·have e1:i=fJ key l x:=by omega
  rw [e1,hz] at he;rw [<- aO he];exact h0
theorem ZK {W W1:au} {v:aC} {l:List ny} {ao:Option Addr} {n c k:Nat} {x:ny} (h:EP W v l) (hv:v=aG ao n c) (hn:l.length=n) (hk:l[k]?=aj x) (hb:Below W.heap.size W W1) :
  ∃ p:Addr,(∀ w,(Instr.indexAt 28 (aG ao n c) (aR aN k)).run L w=.ok (aK (aj p)) w) /\
   (∀ d os,(grow (redrawn W1 d) os).cell? p=aj (aR aN x.1))/\(∀ d os,(grow (redrawn W1 d) os).cell? ⟨p.block,p.off+1,aV⟩=aj (aR aN x.2.1)) /\
   (∀ d os,(grow (redrawn W1 d) os).cell? ⟨p.block,p.off+2,aV⟩=aj (dX x.2.2)):=by
 obtain⟨p,h1,h2⟩:=elW h hv hn hk;obtain⟨c0,c1,c2⟩:=h2 _ hb;exact⟨p,h1,cell_regrown c0,cell_regrown c1,cell_regrown c2⟩
theorem ZM (args:Array aC) (w:au):(callFunc 111 args).run L w=.ok (.enter 111 args) w:=fV bf rfl rfl args w
theorem ZN (i:Nat) (b1 b2:Nat) (ao:Option Addr) (n ac:Nat) (l:List ny) (t:eU) (y:ny) (r:Bool) (w:au) (hv:EP w (aG ao n ac) l) (hn:l.length=n) (hy:l[i]?=aj y) (hr:(!eH (y.1,y.2.1) t)=r)
  (h1:dK w b1 #[aG ao n ac] 28) (h2:dK w b2 #[aR aN t.1,aR aN t.2] 23) :
  bg L 111 #[aR aN i,aK (aj ⟨b1,0,aV⟩),aK (aj ⟨b2,0,aV⟩)] w fun e w'=>e=V (aW r)/\Below w.heap.size w w':=by
 obtain⟨p,ix,p0,p1,p2⟩:=ZK hv rfl hn hy (Below.refl _ _);have a0:=cell_regrown (h1.cell 0);have b0:=cell_regrown (h2.cell 0);have b1':=cell_regrown (h2.cell 1);have C:∀ k os,bg L 31 #[nC (y.1,y.2.1),nC t] (grow (redrawn w k) os) fun e w''=>e=V (aW (eH (y.1,y.2.1) t))/\∃ p:Regrown,w''=grow (redrawn w p.d) p.os:=fun k os=>Calls.regrown_of (vY (y.1,y.2.1) t _);generalize eH (y.1,y.2.1) t=q at *;have R:=K hr;have BN:=K (fun dq osq=>below_regrown w dq osq);obtain⟨y1,y2,⟨yo,yn,yc⟩⟩:=y;obtain⟨c,d⟩:=t;simp only at p0 p1 p2 b0 b1' C;clear hv hn hy hr h1 h2 p2;go_enter bf,Tryz.ntmps111;go_wp2;refine wp_region_quiet_below (by kernel_rfl) (by kernel_rfl) ?_
 repeat (go_big_quiet_step (first | (with_reducible exact C _ _) | exact Uy _ _))
 refine wpQuiet_nil ?_;intro _ hw';obtain⟨⟨dq,osq⟩,hw''⟩:=hw';subst hw'';go_wp2;go_ret;exact⟨congrArg (fun b=>V (aW b)) R.out,BN.out _ _⟩
theorem zP {W:au} {l:List ny} {m:List Ow} (h:eY (xS W) l m) {i:Nat} {y:ny} (hy:l[i]?=aj y):∃ e,m[i]?=aj e/\(y.1,y.2.1)=e.id:=by
 have hlt:=(ak.1 hy).1;obtain⟨e,he⟩:∃ e,m[i]?=aj e:=⟨_,J (by rw [<- h.len]; exact hlt)⟩;obtain⟨y',hy',hx⟩:=h.at i e he;rw [hy] at hy';obtain rfl:=aO hy';exact⟨e,he,hx.1⟩
theorem D7 (v:Sl) (l:List ny) (m:List Ow) (t:eU) (w:au) (hv:EP w (dX v) l) (hA:eY (xS w) l m) (hr:kS Ow.id m) (hl:l.length<=1000) :
  bg L 42 #[dX v,nC t] w fun e w'=>e=V (.tuple #[aR aN (fJ Ow.id m t),aW (iG Ow.id m t)])/\Below w.heap.size w w':=by
 obtain⟨so,n,sc⟩:=v;have hn:l.length=n:=iX hv;obtain⟨c,d⟩:=t;obtain⟨k,hk⟩:∃ k,fJ Ow.id m (c,d)=k:=⟨_,rfl⟩;obtain⟨th,hth⟩:∃ k,iG Ow.id m (c,d)=k:=⟨_,rfl⟩;have hkn:k<=n:=by rw [<- hk,<- hn,hA.len]; exact zO _ _ _
 rw [hk,hth];obtain⟨h0,X,Y⟩:=iI w #[aG so n sc] #[aR aN c,aR aN d] 28 23;have BB:=K h0;have HV:=K (hv.on h0);have HA:=K (hA.mono fun _ _ q=>q.on h0);have X1:=K X;have Y1:=K Y;have x0:=X.cell 0;simp only [List.getElem?_toArray,aJ] at x0;have HF:=K (show ∀ i,i<n->∀ W,Below ((w.alloc (.cells #[aG so n sc] 28)).alloc (.cells #[aR aN c,aR aN d] 23)).heap.size ((w.alloc (.cells #[aG so n sc] 28)).alloc (.cells #[aR aN c,aR aN d] 23)) W ->
   bg L 111 (#[aR aN i]++#[aK (aj ⟨w.heap.size,0,aV⟩),aK (aj ⟨w.heap.size+1,0,aV⟩)]) W fun e w'=>e=V (aW ((fun i=>match l[i]? with | some y=>!eH (y.1,y.2.1) (c,d) | none=>aA) i))/\Below W.heap.size W w' from fun i hi W hb=>by
  obtain⟨y,hy⟩:∃ y,l[i]?=aj y:=⟨_,J (by omega)⟩;refine ZN i _ _ so n sc l (c,d) y _ W (HV.out.on hb) hn hy ?_ (X1.out.on hb) (Y1.out.on hb);simp only [hy])
 have HLO:=K (show ∀ i,i<k->(fun i=>match l[i]? with | some y=>!eH (y.1,y.2.1) (c,d) | none=>aA) i=aI from fun i hi=>by
  obtain⟨y,hy⟩:∃ y,l[i]?=aj y:=⟨_,J (by omega)⟩;obtain⟨e,he,hke⟩:=zP HA.out hy;have h1:=Vp Ow.id m (c,d) i e (by rw [hk]; exact hi) he;simp only [hy,hke,h1]
  rfl)
 have HHI:=K (show ∀ i,k<=i->i<n->(fun i=>match l[i]? with | some y=>!eH (y.1,y.2.1) (c,d) | none=>aA) i=aA from fun i hi hi2=>by
  obtain⟨y,hy⟩:∃ y,l[i]?=aj y:=⟨_,J (by omega)⟩;obtain⟨e,he,hke⟩:=zP HA.out hy;have h1:=Vq hr (c,d) (by rw [hk]; exact hi) he;simp only [hy,hke,h1]
  rfl)
 have HK:=K hk;have HT:=K hth;have HN:=K hn;have ln:n<=1000:=by omega
 clear hv hA h0 X Y hk hth hl hn hr;go_enter Tryz.func42,Tryz.ntmps42;go_wp2_with fail;generalize (w.alloc (.cells #[aG so n sc] 28)).alloc (.cells #[aR aN c,aR aN d] 23)=W at *;refine (xC 111 #[aK (aj ⟨w.heap.size,0,aV⟩),aK (aj ⟨w.heap.size+1,0,aV⟩)] ZM n k _ W (by omega) HF.out hkn HLO.out HHI.out).mono ?_;rintro e1 w1 ⟨rfl,hb⟩;have BN:=K (fun dq osq=>(BB.out.trans (hb.mono BB.out.size)).trans ((below_regrown w1 dq osq).mono (BB.out.trans (hb.mono BB.out.size)).size));have a0:=cell_regrown (show w1.cell? ⟨w.heap.size,0,aV⟩=aj (aG so n sc) from (X1.out.on hb).cell 0);have b0:=cell_regrown (show w1.cell? ⟨w.heap.size+1,0,aV⟩=aj (aR aN c) from (Y1.out.on hb).cell 0);have b1:=cell_regrown (show w1.cell? ⟨w.heap.size+1,1,aV⟩=aj (aR aN d) from (Y1.out.on hb).cell 1);clear x0 HF HLO HHI;by_cases hkl:k<n
 ·obtain⟨y,hy⟩:∃ y,l[k]?=aj y:=⟨_,J (by rw [HN.out]; exact hkl)⟩;obtain⟨p,ix,p0,p1,p2⟩:=ZK HV.out rfl HN.out hy hb;have TH:=K (show th=decide ((y.1,y.2.1)=(c,d)) from by
   obtain⟨e,he,hke⟩:=zP HA.out hy;rw [<- HT.out,iG,HK.out,he,hke])
  have g4:decide ((k:Int)<(n:Int))=aA:=by simp; omega
  obtain⟨y1,y2,⟨yo,yn,yc⟩⟩:=y;simp only at p0 p1 p2;clear p2 hb hy;obtain⟨r1,hr1⟩:∃ r,(y1 == c && y2 == d)=r:=⟨_,rfl⟩;have e1:=rH y1 y2 c d r1 hr1;have R:=K (show th=r1 from by
   rw [TH.out,<- hr1,Bool.eq_iff_iff];simp only [decide_eq_true_eq,aY,beq_iff_eq,Prod.mk.injEq])
  clear hr1 TH HT;cases r1
  all_goals
   go_wp2;refine wp_region_quiet_below (by kernel_rfl) (by kernel_rfl) ?_
   repeat (go_big_quiet_step (fail))
   refine wpQuiet_nil ?_;intro _ hw';obtain⟨⟨dq,osq⟩,hw''⟩:=hw';subst hw'';go_wp2
   go_ret2
   exact⟨by rw [R.out]; rfl,BN.out _ _⟩
 ·have TH:=K (show th=aI from by
   rw [<- HT.out,iG,HK.out,List.getElem?_eq_none (by rw [<- HA.out.len,HN.out]; omega)])
  have g4:decide ((k:Int)<(n:Int))=aI:=by simp; omega
  clear hb HT;go_wp2;refine wp_region_quiet_below (by kernel_rfl) (by kernel_rfl) ?_
  repeat (go_big_quiet_step (fail))
  refine wpQuiet_nil ?_;intro _ hw';obtain⟨⟨dq,osq⟩,hw''⟩:=hw';subst hw'';go_wp2
  go_ret2
  exact⟨by rw [TH.out]; rfl,BN.out _ _⟩
end Rt
namespace Fl
open Go.RowKit Go.Sort Rw YtghlpefopidlaaaGreat.Nm Pr Bk Av
def OuO (W:au) (B:Nat) (x:mX) (o:Ou):Prop:=x.1=o.jh/\x.2.1=o.kind/\(x.2.2.1,x.2.2.2.1)=o.tree/\(x.2.2.2.2.1,x.2.2.2.2.2.1)=o.id/\iJ W B (dX x.2.2.2.2.2.2.1) o.p/\x.2.2.2.2.2.2.2=(aV,0,0)
theorem OuO.ou {W:au} {B:Nat} {x:mX} {o:Ou} (h:OuO W B x o):uI W x o:=⟨h.1,h.2.1,h.2.2.1,h.2.2.2.1,Row.dJ h.2.2.2.2.1,h.2.2.2.2.2⟩
theorem OuO.le {W:au} {B B':Nat} {x:mX} {o:Ou} (h:OuO W B x o) (hB:B'<=B):OuO W B' x o:=⟨h.1,h.2.1,h.2.2.1,h.2.2.2.1,dM h.2.2.2.2.1 hB,h.2.2.2.2.2⟩
structure tX (W:au) (B:Nat) (v:aC) (lx:List mX) (l:List Ou):Prop where
 row:jX W B v lx
 all:eY (OuO W B) lx l
theorem tX.on {W W':au} {B:Nat} {v:aC} {lx:List mX} {l:List Ou} (h:tX W B v lx l) (hb:Below W.heap.size W W'):tX W' B v lx l:=⟨Bk.dI h.row hb,h.all.mono fun _ _ q=>⟨q.1,q.2.1,q.2.2.1,q.2.2.2.1,Bk.dI q.2.2.2.2.1 hb,q.2.2.2.2.2⟩⟩
theorem tX.le {W:au} {B B':Nat} {v:aC} {lx:List mX} {l:List Ou} (h:tX W B v lx l) (hB:B'<=B):tX W B' v lx l:=⟨dM h.row hB,h.all.mono fun _ _ q=>q.le hB⟩
theorem tX.nil (W:au) (B:Nat):tX W B (aG aV 0 0) [] []:=⟨iO _ _,.nil⟩
theorem tX.but {W W':au} {B g:Nat} {v:aC} {lx:List mX} {l:List Ou} {cs:Array aC} {t:TypeId} (h:tX W B v lx l) (hk:But g W W') (hg:dK W g cs t) (h1:(46 == t)=aI) (h2:(91 == t)=aI):tX W' B v lx l:=⟨hk.own h.row hg h1,h.all.mono fun _ _ q=>⟨q.1,q.2.1,q.2.2.1,q.2.2.2.1,hk.own q.2.2.2.2.1 hg h2,q.2.2.2.2.2⟩⟩
theorem tX.outs {W:au} {B:Nat} {s:Sl} {lx:List mX} {l:List Ou} (h:tX W B (dX s) lx l):kG W s l:=⟨lx,Row.dJ h.row,h.all.mono fun _ _ q=>q.ou⟩
theorem tX.len {W:au} {B:Nat} {v:aC} {lx:List mX} {l:List Ou} (h:tX W B v lx l):lx.length=l.length:=h.all.len
theorem tX.more {W W':au} {B:Nat} {v v':aC} {lx ly:List mX} {l m:List Ou} (h:tX W B v lx l) (gr:W.grownBy W' v.ownBlock) (ho:jX W' B v' (lx++ly)) (hx:eY (OuO W B) ly m):tX W' B v' (lx++ly) (l++m) :=
 ⟨ho,eY.append (h.all.mono fun _ _ q=>⟨q.1,q.2.1,q.2.2.1,q.2.2.2.1,Jp h.row gr q.2.2.2.2.1 (by decide),q.2.2.2.2.2⟩) (hx.mono fun _ _ q=>⟨q.1,q.2.1,q.2.2.1,q.2.2.2.1,Jp h.row gr q.2.2.2.2.1 (by decide),q.2.2.2.2.2⟩)⟩
theorem mo.app {W W':au} {B:Nat} {v:aC} {l:List mX} {b:Br} {nv av sv ev ov:Sl} (ho:jX W B v l) (gr:W.grownBy W' v.ownBlock) (h:mo W b nv av sv ev ov):mo W' b nv av sv ev ov:=by
 rcases gB ho with⟨h1,_⟩|⟨g,c,cur,h1,_,h2,_⟩
 ·rw [h1] at gr;exact h.on ((Below.refl _ _).grown gr (O _) (fun j hj=>by cases hj))
 ·rw [h1] at gr;exact h.vg (zH (b:=g) gr) h2 (by decide) (by decide) (by decide) (by decide) (by decide) (by decide)
end Fl
namespace Rl
open Go.RowKit Go.Sort Pu Rw Pr Va
def ZO (a b:List Cn) (w:au) (e:Ending) (w':au):Prop:=Below w.heap.size w w'/\(match jT a.length a b with
 | .ok p=>∃ pv,e=V (.tuple #[pv,aW aA])/\fI w' pv (p.map r5)
 | .error _=>∃ pv,e=V (.tuple #[pv,aW aI]))
theorem Mr {a b:List Cn} (na:NF a) (nb:NF b):Xt (a++b):=⟨by have:=na.five; have:=nb.five; simp; omega,fun c hc=>by
 rcases aZ.1 hc with h|h
 ·exact na.small c h
 ·exact nb.small c h⟩
theorem ac0 (pO bv:aC) (a b:List Cn) (w:au) (ha:fI w pO (a.map r5)) (hb:fI w bv (b.map r5)) (na:NF a) (nb:NF b):bg L 88 #[pO,bv] w (ZO a b w):=by
 have B0:=K (show Below w.heap.size w (w.alloc (.cells #[pO,bv] 34)) from (Below.refl _ _).alloc (O _) _);have CT:=K (OZ w.heap.size pO bv (a.map r5) (b.map r5) (w.alloc (.cells #[pO,bv] 34)) (by simp [go_sem]) (by simp [go_sem]) (ha.on B0.out) (hb.on B0.out) (by rw [aP]; have:=na.five; omega) (by rw [aP]; have:=nb.five; omega));have SP:=K (Mr na nb);have GD:=K (show ∀ c∈a++b,wJ c=aA from fun c hc=>by
  rcases aZ.1 hc with h|h
  ·exact na.good c h
  ·exact nb.good c h)
 have MB:=K (TD (b:=b) na.rise na.five);obtain⟨ao,ac,rfl⟩:=ha.len;obtain⟨bo,bc,rfl⟩:=hb.len;clear ha hb na nb;simp only [aP] at CT B0 ⊢;obtain⟨res,hres⟩:∃ r,r=jT a.length a b:=⟨_,rfl⟩;have MQ:=K (show ∀ e w',(Below w.heap.size w w'/\(match res with
  | .ok p=>∃ pv,e=V (.tuple #[pv,aW aA])/\fI w' pv (p.map r5)
  | .error _=>∃ pv,e=V (.tuple #[pv,aW aI])))->ZO a b w e w' from fun e w' h=>by unfold ZO; rw [<- hres]; exact h)
 rw [<- hres] at MB;generalize hq:ZO a b w=q at *;clear hq hres;go_enter Tryz.func88,Tryz.ntmps88;go_wp2_with fail;refine CT.out.mono ?_;rintro e1 w1 ⟨T,rfl,ho,hb1⟩;have B1:=K (B0.out.trans (hb1.mono B0.out.size));have MK:=K (X7 T (a++b) w1 (by rw [List.map_append]; exact Row.dJ ho) SP.out GD.out);clear ho hb1 CT SP GD B0;go_wp2_with fail;refine MK.out.mono ?_;rintro e2 w2 ⟨hb2,h2⟩;have B2:=K (B1.out.trans (hb2.mono B1.out.size));rw [MB.out] at h2;clear hb2 MK B1 MB;rcases res with _|p
 ·obtain⟨bb,rfl⟩:=h2;go_wp2
  go_region
  all_goals simp only [Exit.then]
  all_goals apply_assumption
  all_goals go_wp2
  all_goals exact MQ.out _ _ ⟨B2.out.drew,_,rfl⟩
 ·obtain⟨pv,rfl,hp⟩:=h2;have HP:=K hp;clear hp;go_wp2
  go_region
  all_goals simp only [Exit.then]
  all_goals apply_assumption
  all_goals go_wp2
  all_goals exact MQ.out _ _ ⟨B2.out.drew,_,rfl,HP.out.on (Below.refl _ _).drew⟩
theorem Pn (pO bv:aC) (a b:List Cn) (w:au) (ha:fI w pO (a.map r5)) (hb:fI w bv (b.map r5)) (na:NF a) (nb:NF b):bg L 28 #[pO,bv] w fun e w'=>e=V (aW (pI a b))/\Below w.heap.size w w':=by
 have T:=K (ac0 pO bv a b w ha hb na nb);have MM:=K (show pI a b=match jT a.length a b with
  | .ok _=>aA
  | .error _=>aI from rfl)
 unfold ZO at T;generalize pI a b=r at *;generalize jT a.length a b=res at *;clear ha hb na nb;go_enter Tryz.func28,Tryz.ntmps28;go_wp2_with fail;refine T.out.mono ?_;rintro e1 w1 ⟨hb1,h1⟩;have B1:=K hb1;clear hb1 T;rcases res with _|p
 ·obtain⟨pv,rfl⟩:=h1;have M:=K (show r=aI from MM.out);clear MM;go_wp2;go_ret;exact⟨eX M.out.symm,B1.out⟩
 ·obtain⟨pv,rfl,hp⟩:=h1;have M:=K (show r=aA from MM.out);clear MM hp;go_wp2;go_ret;exact⟨eX M.out.symm,B1.out⟩
end Rl
namespace Fl
open Go.RowKit Go.Sort Rw YtghlpefopidlaaaGreat.Nm Pr Bk Av
end Fl
namespace Rg
open Go.RowKit
end Rg
namespace Av
open Go.RowKit Go.ChangeShapes Go.WideShapes Bk
theorem aiH {H:Type} {enc:TypeId×aC->H} {W:au} {sp:Nat->Bool} {held:Bool} {fuel:Nat} {g1:aC} {x:DataW H×List MemPlace}
  (hf:Q enc L W 0 sp held fuel 48 [g1]=aj x):∃ n:Nat,n<=maxLen/\Oy W g1 n:=by
 rcases Deep.open_slice Tryz.underlying48 hf with⟨h1,_⟩|⟨a,len,cap,m,n,D,Pl,h1,_,h3,h4,h5,_,hx⟩
 ·have e:g1=aG aV 0 0:=by simpa using h1
  exact⟨0,Nat.zero_le _,⟨aV,0,e⟩,fun i hi=>by omega⟩
 ·have e:g1=aG (aj a) len cap:=by simpa using h1
  rw [e];have hle:len<=m:=by rw [h5]; split <;> omega
  refine⟨len,by omega,⟨aj a,cap,rfl⟩,fun i hi=>?_⟩;obtain⟨cs',k1,k2⟩:=hx i (by omega);obtain⟨xs,n',_,_,hcl,hxl,hy⟩:=aH Tryz.underlying63 k2;rw [acw] at hcl k1
  match cs',hcl with
  | [c0,c1,c2,c3,c4,c5,d1],_ =>
   have f0:Q enc L W 0 sp held n' 3 (([c0,c1,c2,c3,c4,c5,d1].drop 0).take (Tryz.prog.cellsOf 3))=xs[0]?:=hy 0 _ rfl;have f1:Q enc L W 0 sp held n' 3 (([c0,c1,c2,c3,c4,c5,d1].drop 1).take (Tryz.prog.cellsOf 3))=xs[1]?:=hy 1 _ rfl;have f2:Q enc L W 0 sp held n' 3 (([c0,c1,c2,c3,c4,c5,d1].drop 2).take (Tryz.prog.cellsOf 3))=xs[2]?:=hy 2 _ rfl;have f3:Q enc L W 0 sp held n' 3 (([c0,c1,c2,c3,c4,c5,d1].drop 3).take (Tryz.prog.cellsOf 3))=xs[3]?:=hy 3 _ rfl;have f4:Q enc L W 0 sp held n' 3 (([c0,c1,c2,c3,c4,c5,d1].drop 4).take (Tryz.prog.cellsOf 3))=xs[4]?:=hy 4 _ rfl;have fp:Q enc L W 0 sp held n' 52 (([c0,c1,c2,c3,c4,c5,d1].drop 5).take (Tryz.prog.cellsOf 52))=xs[5]?:=hy 5 _ rfl;have ajA:xs.length=5+1:=hxl;simp only [In.ND,Pr.Wt,aS,aD,aF,aT] at f0 f1 f2 f3 f4 fp;rw [J (by omega)] at f0 f1 f2 f3 f4 fp;obtain⟨m0,e0,_,w0⟩:=ah U f0;obtain⟨m1,e1,_,w1⟩:=ah U f1;obtain⟨m2,e2,_,w2⟩:=ah U f2;obtain⟨m3,e3,_,w3⟩:=ah U f3;obtain⟨m4,e4,_,w4⟩:=ah U f4;simp only [List.cons.injEq,and_true] at e0 e1 e2 e3 e4;subst e0 e1 e2 e3 e4;obtain⟨ys,n2,_,_,_,hyl,hp⟩:=aH Tryz.underlying52 fp;have asR:ys.length=2:=hyl;have q0:Q enc L W 0 sp held n2 24 (([c5,d1].drop 0).take (Tryz.prog.cellsOf 24))=ys[0]?:=hp 0 _ rfl;have q1:Q enc L W 0 sp held n2 24 (([c5,d1].drop 1).take (Tryz.prog.cellsOf 24))=ys[1]?:=hp 1 _ rfl;simp only [Pr.P7,aS,aD,aF,aT] at q0 q1;rw [J (by omega)] at q0 q1;obtain⟨has,l1,i1⟩:=In.Bc q0;obtain⟨vals,l2,i2⟩:=In.Bc q1;obtain⟨x1,y1,rfl⟩:=i1.shape;obtain⟨x2,y2,rfl⟩:=i2.shape;obtain⟨_,_,k3⟩:=World.cells?_some k1;have k0:=k3 0 (by decide);rw [Rw.add_zero] at k0;refine⟨a.add (i * 7),m0,m1,m2,m3,m4,x1,_,y1,x2,_,y2,has,vals,World.block_lt_of_cell? W _ k0,fun w=>acy a i len cap hi w,fun j u hu=>?_,⟨In.vT w0,In.vT w1,In.vT w2,In.vT w3,In.vT w4⟩,i1,i2,l1,l2⟩;have hj:j<7:=(ak.1 hu).1;rw [<- hu];exact k3 j hj
theorem ZR:Tryz.prog.cellsOf 50=2:=by kernel_rfl
theorem ZU:Tryz.prog.cellsOf 48=1:=by kernel_rfl
theorem ZV {n:Int} (h:(Lit.int aN n).wf=aA):-9223372036854775808<=n/\n<=9223372036854775807:=by
 have h2:(decide (IntKind.i64.min<=n) && decide (n<=IntKind.i64.max))=aA:=h;rw [aY,decide_eq_true_eq,decide_eq_true_eq,show IntKind.i64.min=-9223372036854775808 by decide,show IntKind.i64.max=9223372036854775807 by decide] at h2;exact h2
theorem ZW {H:Type} {enc:TypeId×aC->H} {W:au} {r:Reach} {b0:Nat} {sp:Nat->Bool} {held:Bool} {v:aC} {d:DataW H} {ps:List MemPlace}
  (hval:Value.okWide L W r b0 50 v) (hd:DataW.Trod enc L W 0 sp held 50 v d ps) :
  ∃ (zn:Int) (u:aC) (n:Nat),v=.agg #[aR aN zn,u]/\-9223372036854775808<=zn/\zn<=9223372036854775807/\n<=maxLen/\Oy W u n:=by
 obtain⟨cs,rfl,hsz⟩:=okWide_struct aX hval;obtain⟨fuel,hf⟩:=hd;obtain⟨xs,n,_,_,_,hxl,hx⟩:=aH aX hf;rw [ZR] at hsz;obtain⟨l⟩:=cs
 match l,hsz with
 | [c0,c1],_ =>
  have f0:Q enc L W 0 sp held n 3 (([c0,c1].drop 0).take (Tryz.prog.cellsOf 3))=xs[0]?:=hx 0 _ rfl;have f1:Q enc L W 0 sp held n 48 (([c0,c1].drop 1).take (Tryz.prog.cellsOf 48))=xs[1]?:=hx 1 _ rfl;have ajA:xs.length=2:=hxl;simp only [In.ND,ZU,aS,aD,aF,aT] at f0 f1;rw [J (by omega)] at f0 f1;obtain⟨m0,e0,_,w0⟩:=ah U f0;simp only [List.cons.injEq,and_true] at e0;subst e0;obtain⟨k,h1,h2⟩:=aiH f1;exact⟨m0,c1,k,rfl,(ZV w0).1,(ZV w0).2,h1,h2⟩
end Av
end Go.Proofs.YtghlpefopidlaaaGreat
