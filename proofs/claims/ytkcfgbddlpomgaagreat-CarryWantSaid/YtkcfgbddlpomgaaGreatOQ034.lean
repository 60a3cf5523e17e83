/-
  broadsidekeep.Side: . Conditions as told.
-/
import Derived.Test.YtkcfgbddlpomgaaGreatOQ031
import Derived.Test.YtkcfgbddlpomgaaGreatOQ033
set_option maxRecDepth 100000
set_option maxHeartbeats 64000000
open _root_.Bool renaming true->aI,false->aN
open Go.Builtin renaming copy_->aG,append_->aJ
open Go.Ending renaming returned->aH
open Go.Instr renaming sliceAt->ah
open Go.IntKind renaming i64->O,wrap_i64->aP
open Go.Lib renaming hid->J
open Go.Obj renaming cells->aj
open Go.Proofs.Tryz renaming prog->X,ntmps51->aO,func51->aR
open Go.Proofs.YtkcfgbddlpomgaaGreat.Wi renaming within->aC,iX->aT,gZ->aU
open Go.Value renaming slice->D,int->L
open _root_.List renaming getElem?_eq_getElem->Z,getElem?_cons_zero->ak,getElem?_cons_succ->au,getElem?_toArray->ay,mem_filter->aD,mem_map->aF,length_filter_le->aK,mem_of_getElem?->aL
open List.Pairwise renaming nil->aB
open _root_.Nat renaming le_refl->U,le_trans->V,le_succ_of_le->aA,zero_le->aQ,lt_or_ge->aS
open _root_.Option renaming none->K,some->Y
open _root_.Or renaming inl->aM
namespace Go.Proofs.YtkcfgbddlpomgaaGreat
namespace Bk
open Go.RowKit Go.Sort Rw YtkcfgbddlpomgaaGreat.Nm Pr
def Eu (near:List Int) (n:Int):Int:=(near[(aC n 0 near.length).toNat]?).getD (-1)
theorem Wd (me n:Int) (nv:Sl) (av sv ev ov:Value) (l:List Int) (w:World) (hs:qI w (dU nv) l) (hl:l.length<=900) (h1:-9223372036854775808<=n) (h2:n<=9223372036854775807) :
  Calls X 8 #[.agg #[L O me,dU nv,av,sv,ev,ov],L O n] w fun e w'=>e=aH (L O (Eu l n))/\Below w.heap.size w w':=by
 obtain⟨no,nn,nc⟩:=nv;obtain⟨q1,q2,hq⟩:=hs.len;obtain⟨rfl,rfl,rfl⟩:no=q1/\nn=l.length/\nc=q2:=by
  have:D no nn nc=D q1 l.length q2:=hq;simpa using this
 obtain⟨nn,hnn⟩:∃ n,n=l.length:=⟨_,rfl⟩;simp only [<- hnn] at hs ⊢;have NB:=fI w (aj #[L O me,D no nn nc,av,sv,ev,ov] 33);have B0:=J NB;have X2:=J (dO w #[L O me,D no nn nc,av,sv,ev,ov] 33);have HS:=J (hs.on NB);have HN:=J hnn;have nl:nn<=900:=by omega
 clear NB hs hq hnn hl;show Calls X 8 #[.agg #[L O me,D no nn nc,av,sv,ev,ov],L O n] w _;go_enter Tryz.func8,Tryz.ntmps8;go_upto_region 1 with fail;generalize w.alloc (aj #[L O me,D no nn nc,av,sv,ev,ov] 33)=W at *;have x1:=X2.out.cell 1;simp only [ay,ak,au] at x1;have WI:=aU n 0 (nn:Int) W (by omega) (by decide) (by omega) h1 h2;have WB:=aT n 0 (nn:Int) (by omega);have SD:=J (show Eu l n=(l[(aC n 0 (nn:Int)).toNat]?).getD (-1) from by unfold Eu; rw [HN.out]);generalize aC n 0 (nn:Int)=y at *;obtain⟨m,rfl⟩:∃ m:Nat,y=m:=⟨y.toNat,by omega⟩;rw [Int.toNat_natCast] at SD;go_wp2_with fail;refine WI.mono ?_;rintro e2 w2 ⟨rfl,rfl⟩;clear WI;by_cases hm:m<nn
 ·have hm2:(m:Int)<(nn:Int):=by omega
  obtain⟨z,hz⟩:∃ z,l[m]?=Y z:=⟨_,Z (by rw [<- HN.out]; exact hm)⟩;obtain⟨p,ix,px⟩:=elI HS.out rfl HN.out.symm hz;have p0:=px.2 W (Below.refl _ _);rw [hz] at SD;clear px hz;go_wp2_with fail;go_ret;exact⟨by rw [SD.out]; rfl,B0.out⟩
 ·have hm2:¬ ((m:Int)<(nn:Int)):=by omega
  rw [List.getElem?_eq_none (by have:=HN.out; omega)] at SD;go_wp2_with fail;go_ret;exact⟨by rw [SD.out]; rfl,B0.out⟩
end Bk
namespace Av
open Go.RowKit Go.Sort Rw YtkcfgbddlpomgaaGreat.Nm Pr Bk
theorem Oq {b:Br} (h:jZ b) (t x:eT) (f:Int):jZ (kE b t x f).1:=by
 rw [jl];exact Oc h t x f
theorem Bw {b:Br} (h:jZ b) (x:eT):∀ k,k<=b.dQ.length->jZ (jT b x k).1
 | 0,_=>⟨h.near,h.seen,h.dQ,h.ent,h.own.sublist List.filter_sublist,h.oks,fun e he=>sS (b:=b) rfl rfl (h.NM e he),fun o ho=>h.Ze o ((aD.1 ho).1)⟩
 | k+1,hk=>by
  obtain⟨a,ha⟩:∃ a,b.dQ[k]?=Y a:=⟨_,Z hk⟩;rw [lZ b x ha];exact Oq (Bw h x k (by omega)) _ _ _
theorem Q9 {b:Br} (h:jZ b) (x:eT):jZ (iZ b x).1:=by
 unfold iZ
 split
 ·exact h
 ·exact Bw h x _ (U _)
theorem uR {α:Type} {l:List α} {f:Br×List Ou->α->Br×List Ou} {s0:Br×List Ou} (P:Br->Prop) (h0:P s0.1) (hs:∀ s a,a∈l->P s.1->P (f s a).1):∀ k,k<=l.length->P (fA l f s0 k).1
 | 0,_=>h0
 | k+1,hk=>by
  obtain⟨a,ha⟩:∃ a,l[k]?=Y a:=⟨_,Z hk⟩;rw [pX f s0 ha];exact hs _ a (aL ha) (uR P h0 hs k (by omega))
theorem step_ok {s:Br×List Ou} (h:jZ s.1) (mt:Bool) (e:En) (t:Int) (hc:jS s.1.near e.from_=aI) (hq:Wr.jg e.p=aI):jZ (gV s mt e t).1:=by
 unfold gV
 split
 ·exact h
 ·exact Md h e hc hq
theorem rZ (l:List Int):jS l (-1)=aI:=by simp [jS]
theorem adZ {b:Br} (h:jZ b) (f:Int) (x:eT) (p:List C5) (hc:jS b.near f=aI) (hq:Wr.jg p=aI):jZ (lH b f x p).1:=by
 have hl:=Jc h ⟨x,p,f⟩ hc hq;unfold lH
 split
 ·exact hl
 ·refine uR jZ hl (fun s o ho hs=>step_ok hs _ _ _ (rZ _) ?_) _ (U _);rw [(kC b ⟨x,p,f⟩).2.2.2] at ho;exact h.Ze o ho
theorem Ev {l:List Ow} (hr:kW Ow.id l) {x:eT} (h:¬ (l[fO (l.map Ow.id) x]?).map Ow.id=Y x):∀ y∈l,y.id≠x:=by
 intro y hy e;apply h;rw [<- jm];have ht:mU Ow.id l x=aI:=by
  rw [Qt hr];exact decide_eq_true (aF.2 ⟨y,hy,e⟩)
 unfold mU at ht;cases hg:l[gN Ow.id l x]? with
 | none=>rw [hg] at ht; cases ht
 | some z =>
  rw [hg] at ht;rw [Option.map_some,of_decide_eq_true ht]
theorem Zk {b:Br} (h:jZ b) (x:eT) (p:List C5) (hq:Wr.jg p=aI):jZ (kX b x p).1:=by
 unfold kX
 split
 ·exact h
 ·rename_i hn
  have hi:jZ (ownIn b x p):=by
   have hr:kW Ow.id (fV b.own (fO (b.own.map Ow.id) x) ⟨x,p⟩):=by
    rw [<- jm];exact kL h.own ⟨x,p⟩ (Ev h.own hn)
   exact⟨h.near,h.seen,h.dQ,h.ent,hr,h.oks,fun e he=>sS (b:=b) rfl rfl (h.NM e he),fun o ho=>by
    rcases (jE _ _ _ _).1 ho with rfl|ho
    ·exact hq
    ·exact h.Ze o ho⟩
  exact uR jZ hi (fun s a _ hs=>step_ok hs _ _ _ (rZ _) hq) _ (U _)
structure KI (i:Nat) (b:Br):Prop where
 ok:jZ b
 pa:∀ a∈b.dQ,dW a.p
 pe:∀ e∈b.ent,dW e.p
 po:∀ o∈b.own,dW o.p
 ln:b.near.length<=4
 ls:b.seen.length<=i
 la:b.dQ.length<=i
 lo:b.own.length<=i
 le:b.ent.length<=i * 12
theorem KI.kn {i:Nat} {b:Br} (h:KI i b):∀ e∈b.ent,e.tree∈b.dQ.map Ad.id:=fun e he=>by
 have h1:=h.ok.NM e he;unfold yK at h1;cases hf:gD b.dQ e.tree with
 | none=>rw [hf] at h1; cases h1
 | some a =>
  obtain⟨q1,q2⟩:=pV hf;exact aF.2 ⟨a,q1,q2⟩
theorem KI.more {i:Nat} {b:Br} (h:KI i b):KI (i+1) b:=⟨h.ok,h.pa,h.pe,h.po,h.ln,aA h.ls,aA h.la,aA h.lo,by have:=h.le; omega⟩
theorem Rb (b:Br) (a:Ad):∀ y∈(fJ b a).1.dQ,y=a\/y∈b.dQ:=by
 unfold fJ
 split
 ·exact fun y hy=>Or.inr hy
 ·exact fun y hy=>(jE _ _ _ _).1 hy
theorem KI.dQ {i:Nat} {b:Br} (h:KI i b) (hi:i<12) (f:Int) (x:eT) (p:List C5) (hc:jS b.near f=aI) (hq:Wr.jg p=aI) (hp:dW p):KI (i+1) (lH b f x p).1:=by
 have hok:=adZ h.ok f x p hc hq;obtain⟨m1,m2,m3,m4⟩:=kC b ⟨x,p,f⟩;obtain⟨n1,n2⟩:=Eo b ⟨x,p,f⟩;have lm:=Rb b ⟨x,p,f⟩;have hpa:∀ a∈(fJ b ⟨x,p,f⟩).1.dQ,dW a.p:=fun a ha=>by
  rcases lm a ha with rfl|ha
  ·exact hp
  ·exact h.pa a ha
 have h1:=h.ls;have h2:=h.la;have h3:=h.lo;have h4:=h.le;revert hok;unfold lH
 split
 ·intro hok;exact⟨hok,hpa,by rw [m3]; exact h.pe,by rw [m4]; exact h.po,by rw [m2]; exact h.ln,V n2 (by omega),V n1 (by omega),by rw [m4]; omega,by rw [m3]; omega⟩
 ·intro hok;obtain⟨q1,q2,_⟩:=mV (l:=(fJ b ⟨x,p,f⟩).1.own) (b0:=(fJ b ⟨x,p,f⟩).1) (o0:=gL b.near f 1 x (0,0) p) (fun o=>kH o.p p) (fun o=>Ba x o) (fun _=>f) (fun e=>dW e.p) (by rw [m3]; exact h.pe) (fun o ho _=>by rw [m4] at ho; exact h.po o ho) _ (U _);refine⟨hok,?_,q2,?_,?_,?_,?_,?_,?_⟩
  ·intro a ha;rw [show (fA _ (nX f x p) _ _).1.dQ=_ from q1.dQ] at ha;exact hpa a ha
  ·intro o ho;rw [show (fA _ (nX f x p) _ _).1.own=_ from q1.own,m4] at ho;exact h.po o ho
  ·rw [show (fA _ (nX f x p) _ _).1.near=_ from q1.near,m2];exact h.ln
  ·rw [show (fA _ (nX f x p) _ _).1.seen=_ from q1.seen];omega
  ·rw [show (fA _ (nX f x p) _ _).1.dQ=_ from q1.dQ];omega
  ·rw [show (fA _ (nX f x p) _ _).1.own=_ from q1.own,m4];omega
  ·have q3:=q1.len;rw [m3,m4] at q3;refine V (show (fA _ (nX f x p) _ _).1.ent.length<=_ from by rw [m4]; exact q3) ?_;omega
theorem KI.subs {i:Nat} {b:Br} (h:KI i b) (hi:i<12) (x:eT) (p:List C5) (hq:Wr.jg p=aI) (hp:dW p):KI (i+1) (kX b x p).1:=by
 have hok:=Zk h.ok x p hq;have h1:=h.ls;have h2:=h.la;have h3:=h.lo;have h4:=h.le;revert hok;unfold kX
 split
 ·intro hok;exact h.more
 ·intro hok;obtain⟨q1,q2,_⟩:=mV (l:=b.dQ) (b0:=ownIn b x p) (o0:=[]) (fun a=>kH p a.p) (fun a=>oD x p a) (fun a=>a.par) (fun e=>dW e.p) h.pe (fun o ho _=>hp) _ (U _);refine⟨hok,?_,q2,?_,?_,?_,?_,?_,?_⟩
  ·intro a ha;rw [show (fA _ (jV x p) _ _).1.dQ=_ from q1.dQ] at ha;exact h.pa a ha
  ·intro o ho;rw [show (fA _ (jV x p) _ _).1.own=_ from q1.own] at ho;rcases (jE _ _ _ _).1 ho with rfl|ho
   ·exact hp
   ·exact h.po o ho
  ·rw [show (fA _ (jV x p) _ _).1.near=_ from q1.near];exact h.ln
  ·rw [show (fA _ (jV x p) _ _).1.seen=_ from q1.seen];show b.seen.length<=_;omega
  ·rw [show (fA _ (jV x p) _ _).1.dQ=_ from q1.dQ];show b.dQ.length<=_;omega
  ·rw [show (fA _ (jV x p) _ _).1.own=_ from q1.own];show (fV _ _ _).length<=_;rw [QO];omega
  ·have q3:=q1.len;have q4:(ownIn b x p).ent.length=b.ent.length:=rfl;refine V (show (fA _ (jV x p) _ _).1.ent.length<=_ from q3) ?_;omega
theorem KI.ad1 {i:Nat} {b:Br} (h:KI i b) (x:eT):KI (i+1) (iZ b x).1:=by
 have hok:=Q9 h.ok x;have h1:=h.ls;have h2:=h.la;have h3:=h.lo;have h4:=h.le;revert hok;unfold iZ
 split
 ·intro hok;exact h.more
 ·intro hok;have q1:=(rJ b x b.dQ.length (U _)).1;refine⟨hok,by rw [q1.dQ]; exact h.pa,sN b x (fun e=>dW e.p) (fun _ h=>h) h.pe _ (U _),?_,by rw [q1.near]; exact h.ln,by rw [q1.seen]; omega,by rw [q1.dQ]; omega,?_,by have:=q1.len; omega⟩
  ·rw [q1.own];exact fun o ho=>h.po o ((aD.1 ho).1)
  ·rw [q1.own];have h5:=aK (fun o:Ow=>decide (o.id≠x)) b.own;unfold vS;omega
theorem KI.drop {i:Nat} {b:Br} (h:KI i b) (t x:eT) (f:Int):KI (i+1) (kE b t x f).1:=by
 have hok:=Oq h.ok t x f;have h1:=h.ls;have h2:=h.la;have h3:=h.lo;have h4:=h.le;rw [jl] at hok ⊢;obtain⟨m1,m2,_,m4,m5⟩:=jw b t x f;exact⟨hok,by rw [m1]; exact h.pa,(yG t x f (fun e=>dW e.p) (fun _ _ h=>h) h.pe).1,by rw [m5]; exact h.po,by rw [m2]; exact h.ln,by rw [m4]; omega,by rw [m1]; omega,by rw [m5]; omega,by have:=(rz b t x f).1; omega⟩
theorem KI.agi {i:Nat} {b:Br} (h:KI i b) (f:Int) (t x:eT) (p:List C5) (hc:jS b.near f=aI) (hq:Wr.jg p=aI) (hp:dW p):KI (i+1) (oq b f t x p).1:=by
 have hok:=Md h.ok ⟨t,x,p,f,aN⟩ hc hq;have h1:=h.ls;have h2:=h.la;have h3:=h.lo;have h4:=h.le;rw [rQ];obtain⟨_,m2,m1,m4,m5⟩:=jR b ⟨t,x,p,f,aN⟩;exact⟨hok,by rw [m1]; exact h.pa,Jl (fun e=>dW e.p) h.pe (fun _=>hp),by rw [m5]; exact h.po,by rw [m2]; exact h.ln,by rw [m4]; omega,by rw [m1]; omega,by rw [m5]; omega,by have:=Jm b ⟨t,x,p,f,aN⟩; omega⟩
theorem KI.forget {i:Nat} {b:Br} (h:KI i b) (x:eT) (f:Int):KI (i+1) (ig b x f).1:=by
 have hok:=QF h.ok x f;rw [AA h.ok.dQ] at hok;have h1:=h.ls;have h2:=h.la;have h3:=h.lo;have h4:=h.le;revert hok;unfold ig
 split
 ·exact fun _=>h.more
 ·split
  ·exact fun _=>h.more
  ·split
   ·intro hok;exact⟨hok,fun a ha=>h.pa a (oM ha),fun e he=>h.pe e ((aD.1 he).1),h.po,h.ln,aA h1,by have h5:=(sV b.dQ (fK (b.dQ.map Ad.id) x).toNat).length_le; show (cutAt _ _).length<=_; omega,aA h3,by have h5:=aK (fun e:En=>decide (e.tree≠x)) b.ent; show (List.filter _ _).length<=_; omega⟩
   ·exact fun _=>h.more
theorem Mg (l:List Int) (n:Int):jS l (Eu l n)=aI:=by
 unfold Eu;cases h:l[(aC n 0 l.length).toNat]? with
 | none=>exact rZ l
 | some z =>
  have:=aL h;simp [jS,this]
def K4 (n:Int):Prop:=0<=n/\n<=4
abbrev KS (b:Br):Prop:=(∀ e∈b.ent,K4 e.sub.1)/\∀ o∈b.own,K4 o.id.1
theorem Wh {b:Br} (h:KS b) (e:En) (he:K4 e.sub.1):KS (fG b e).1:=by
 unfold fG
 split
 ·exact h
 ·split
  ·exact h
  ·split
   ·exact h
   ·split
    ·exact h
    ·refine⟨fun z hz=>?_,h.2⟩;rcases (jE _ _ _ _).1 hz with rfl|hz
     ·exact he
     ·exact h.1 z hz
theorem JJ {s:Br×List Ou} (h:KS s.1) (mt:Bool) (e:En) (t:Int) (he:K4 e.sub.1):KS (gV s mt e t).1:=by
 unfold gV
 split
 ·exact h
 ·exact Wh h e he
theorem Gr {b:Br} (h:KS b) (f:Int) (x:eT) (p:List C5):KS (lH b f x p).1:=by
 have hs:=kC b ⟨x,p,f⟩;have hl:KS (fJ b ⟨x,p,f⟩).1:=⟨by rw [hs.2.2.1]; exact h.1,by rw [hs.2.2.2]; exact h.2⟩;unfold lH
 split
 ·exact hl
 ·refine uR KS hl (fun s o ho hs2=>JJ hs2 _ _ _ ?_) _ (U _);rw [hs.2.2.2] at ho;exact h.2 o ho
theorem Zl {b:Br} (h:KS b) (x:eT) (p:List C5) (hx:K4 x.1):KS (kX b x p).1:=by
 unfold kX
 split
 ·exact h
 ·have hi:KS (ownIn b x p):=⟨h.1,fun o ho=>by
   rcases (jE _ _ _ _).1 ho with rfl|ho
   ·exact hx
   ·exact h.2 o ho⟩
  exact uR KS hi (fun s a _ hs=>JJ hs _ _ _ hx) _ (U _)
theorem Ot {b:Br} (h:KS b) (t x:eT) (f:Int):KS (takeB b t x f).1:=by
 unfold takeB
 split
 ·exact h
 ·split
  ·exact h
  ·split
   ·exact h
   ·split
    ·exact⟨fun e he=>h.1 e (oM he),h.2⟩
    ·refine⟨fun e he=>?_,h.2⟩;have hk:eD e∈(gT t (cutAt b.ent (iJ (b.ent.map eD) (t,x)).toNat) (cutAt b.ent (iJ (b.ent.map eD) (t,x)).toNat).length).1.map eD:=aF.2 ⟨e,he,rfl⟩;rw [vZ] at hk;obtain⟨z,hz,hk2⟩:=aF.1 hk;have h3:=h.1 z (oM hz);rw [<- show z.sub=e.sub from congrArg Prod.snd hk2];exact h3
theorem Ew {b:Br} (h:KS b) (x:eT):∀ k,k<=b.dQ.length->KS (jT b x k).1
 | 0,_=>⟨h.1,fun o ho=>h.2 o ((aD.1 ho).1)⟩
 | k+1,hk=>by
  obtain⟨a,ha⟩:∃ a,b.dQ[k]?=Y a:=⟨_,Z hk⟩;rw [lZ b x ha];show KS (kE _ _ _ _).1;rw [jl];exact Ot (Ew h x k (by omega)) _ _ _
theorem Rc {b:Br} (h:KS b) (x:eT):KS (iZ b x).1:=by
 unfold iZ
 split
 ·exact h
 ·exact Ew h x _ (U _)
theorem zG {b:Br} (h:KS b) (f mk:Int) (t x:eT) (p:List C5) (hx:K4 x.1):KS (j5 b f mk t x p).1:=by
 unfold j5
 split
 ·exact Gr h f t p
 ·split
  ·show KS (ig b t f).1;unfold ig
   split
   ·exact h
   ·split
    ·exact h
    ·split
     ·exact⟨fun e he=>h.1 e ((aD.1 he).1),h.2⟩
     ·exact h
  ·split
   ·rw [rQ]; exact Wh h _ hx
   ·rw [jl]; exact Ot h _ _ _
abbrev SnK (b:Br):Prop:=(∀ x∈b.seen,x.1<=2)/\KS b
end Av
namespace Sb
open Go.RowKit Go.Sort Rw YtkcfgbddlpomgaaGreat.Nm Pr Bk Av
theorem Mh {s:Br×List Ou} (h:jZ s.1) (ht:iP s.1) (mt:Bool) (e:En) (t:Int):iP (gV s mt e t).1:=by
 unfold gV
 split
 ·exact ht
 ·exact Ej h e ht
theorem Bz {α:Type} {l:List α} (mt:α->Bool) (e:α->En) (t:α->Int) {s0:Br×List Ou} (h:jZ s0.1) (ht:iP s0.1) (hc:∀ s:Br×List Ou,∀ a∈l,jZ s.1->jZ (gV s (mt a) (e a) (t a)).1) (k:Nat) (hk:k<=l.length):iP (fA l (fun s a=>gV s (mt a) (e a) (t a)) s0 k).1 :=
 (uR (fun b=>jZ b/\iP b) ⟨h,ht⟩ (fun s a ha hs=>⟨hc s a ha hs.1,Mh hs.1 hs.2 _ _ _⟩) k hk).2
theorem uS {b:Br} (h:jZ b) (ht:iP b) (f:Int) (x:eT) (p:List C5) (hc:jS b.near f=aI) (hq:Wr.jg p=aI):iP (lH b f x p).1:=by
 have hl:=Jc h ⟨x,p,f⟩ hc hq;have hlt:=Jf h ⟨x,p,f⟩ ht;unfold lH
 split
 ·exact hlt
 ·exact Bz (s0:=((fJ b ⟨x,p,f⟩).1,gL b.near f 1 x (0,0) p)) (fun o=>kH o.p p) (fun o=>Ba x o) (fun _=>f) hl hlt (fun s o ho hs=>step_ok hs _ _ _ (rZ _) (hl.Ze o ho)) _ (U _)
theorem Mi {b:Br} (h:jZ b) (ht:iP b) (x:eT) (p:List C5) (hq:Wr.jg p=aI):iP (kX b x p).1:=by
 unfold kX
 split
 ·exact ht
 ·rename_i hn
  have hi:jZ (ownIn b x p):=by
   have hr:kW Ow.id (fV b.own (fO (b.own.map Ow.id) x) ⟨x,p⟩):=by
    rw [<- jm];exact kL h.own ⟨x,p⟩ (Ev h.own hn)
   exact⟨h.near,h.seen,h.dQ,h.ent,hr,h.oks,fun e he=>sS (b:=b) rfl rfl (h.NM e he),fun o ho=>by
    rcases (jE _ _ _ _).1 ho with rfl|ho
    ·exact hq
    ·exact h.Ze o ho⟩
  exact Bz (s0:=(ownIn b x p,[])) (fun a=>kH p a.p) (fun a=>oD x p a) (fun a=>a.par) hi (show iP (ownIn b x p) from ht) (fun s a _ hs=>step_ok hs _ _ _ (rZ _) hq) _ (U _)
theorem xD {b:Br} (ht:iP b) (x:eT):∀ k,k<=b.dQ.length->iP (jT b x k).1
 | 0,_=>ht
 | k+1,hk=>by
  obtain⟨a,ha⟩:∃ a,b.dQ[k]?=Y a:=⟨_,Z hk⟩;rw [lZ b x ha];show iP (kE _ _ _ _).1;rw [jl];exact AY _ _ _ (xD ht x k (by omega))
theorem Gs {b:Br} (ht:iP b) (x:eT):iP (iZ b x).1:=by
 unfold iZ
 split
 ·exact ht
 ·exact xD ht x _ (U _)
theorem qF {b:Br} (h:jZ b) (ht:iP b) (f mk:Int) (t x:eT) (p:List C5) (hc:jS b.near f=aI) (hq:Wr.jg p=aI):iP (j5 b f mk t x p).1:=by
 unfold j5
 split
 ·exact uS h ht f t p hc hq
 ·split
  ·show iP (ig b t f).1;rw [<- AA h.dQ];exact Gj t f ht
  ·split
   ·rw [rQ]; exact Ej h _ ht
   ·rw [jl]; exact AY _ _ _ ht
end Sb
namespace Av
open Go.RowKit Go.Sort Rw YtkcfgbddlpomgaaGreat.Nm Pr Bk
def KM (t:eT) (b c:Br):Prop:=c.me=b.me/\c.near=b.near/\∀ x∈c.seen,x∈b.seen\/x=t
theorem Mj (b:Br) (a:Ad):∀ y∈(fJ b a).1.seen,y∈b.seen\/y=a.id:=by
 unfold fJ
 split
 ·exact fun y hy=>aM hy
 ·exact fun y hy=>((jE _ _ _ _).1 hy).symm
theorem Gt (b:Br) (f:Int) (x:eT) (p:List C5):KM x b (lH b f x p).1:=by
 obtain⟨m1,m2,_,_⟩:=kC b ⟨x,p,f⟩;have m5:=Mj b ⟨x,p,f⟩;unfold lH
 split
 ·exact⟨m1,m2,m5⟩
 ·have q:=(mV (l:=(fJ b ⟨x,p,f⟩).1.own) (b0:=(fJ b ⟨x,p,f⟩).1) (o0:=gL b.near f 1 x (0,0) p) (fun o=>kH o.p p) (fun o=>Ba x o) (fun _=>f) (fun _=>True) (fun _ _=>trivial) (fun _ _ _=>trivial) _ (U _)).1;exact⟨(show (fA _ (nX f x p) _ _).1.me=_ from q.me).trans m1,(show (fA _ (nX f x p) _ _).1.near=_ from q.near).trans m2,by rw [show (fA _ (nX f x p) _ _).1.seen=_ from q.seen]; exact m5⟩
theorem Zm (t:eT) (b:Br) (x:eT) (p:List C5):KM t b (kX b x p).1:=by
 unfold kX
 split
 ·exact⟨rfl,rfl,fun _ h=>aM h⟩
 ·have q:=(mV (l:=b.dQ) (b0:=ownIn b x p) (o0:=[]) (fun a=>kH p a.p) (fun a=>oD x p a) (fun a=>a.par) (fun _=>True) (fun _ _=>trivial) (fun _ _ _=>trivial) _ (U _)).1;exact⟨(show (fA _ (jV x p) _ _).1.me=_ from q.me),(show (fA _ (jV x p) _ _).1.near=_ from q.near),by rw [show (fA _ (jV x p) _ _).1.seen=_ from q.seen]; exact fun _ h=>aM h⟩
theorem Rf (t:eT) (b:Br) (x:eT):KM t b (iZ b x).1:=by
 unfold iZ
 split
 ·exact⟨rfl,rfl,fun _ h=>aM h⟩
 ·have q:=(rJ b x _ (U _)).1;exact⟨q.me,q.near,by rw [q.seen]; exact fun _ h=>aM h⟩
theorem Zn (b:Br) (t x:eT) (f:Int):KM t b (kE b t x f).1:=by
 rw [jl];exact⟨(jw b t x f).2.2.1,(jw b t x f).2.1,by rw [(jw b t x f).2.2.2.1]; exact fun _ h=>aM h⟩
theorem Wj (b:Br) (f:Int) (t x:eT) (p:List C5):KM t b (oq b f t x p).1:=by
 rw [rQ];exact⟨(jR b _).1,(jR b _).2.1,by rw [(jR b _).2.2.2.1]; exact fun _ h=>aM h⟩
theorem JK (b:Br) (x:eT) (f:Int):(ig b x f).1.seen=b.seen:=by
 unfold ig
 split
 ·rfl
 ·split
  ·rfl
  ·split <;> rfl
theorem zH (b:Br) (f mk:Int) (t x:eT) (p:List C5):KM t b (j5 b f mk t x p).1:=by
 unfold j5
 split
 ·exact Gt b f t p
 ·split
  ·exact⟨(kR b t f).2,(kR b t f).1,by rw [show (Bd b f t).1.seen=b.seen from JK b t f]; exact fun _ h=>aM h⟩
  ·split
   ·exact Wj b f t x p
   ·exact Zn b t x f
theorem KI.step {i:Nat} {b:Br} (h:KI i b) (hi:i<12) (f mk:Int) (t x:eT) (p:List C5) (hc:jS b.near f=aI) (hq:Wr.jg p=aI) (hp:dW p):KI (i+1) (j5 b f mk t x p).1:=by
 unfold j5
 split
 ·exact h.dQ hi f t p hc hq hp
 ·split
  ·exact h.forget t f
  ·split
   ·exact h.agi f t x p hc hq hp
   ·exact h.drop t x f
def tH (k:Nat):List Int:=(List.range k).map fun (j:Nat)=>(j:Int)+1
theorem BD (k:Nat):tH (k+1)=tH k++[(k:Int)+1]:=by simp [tH,List.range_succ]
theorem r9 (k:Nat):(tH k).length=k:=by simp [tH]
theorem BJ:∀ k,(tH k).Pairwise (·<·)
 | 0=>aB
 | k+1=>by
  rw [BD,List.pairwise_append];refine⟨BJ k,by simp,fun a ha b hb=>?_⟩;rw [List.mem_singleton.1 hb];obtain⟨j,hj,rfl⟩:=aF.1 ha;have:=List.mem_range.1 hj;omega
theorem ad2 (k:Nat) (hk:k<=4):KI 0 ⟨0,tH k,[],[],[],[]⟩ :=
 ⟨⟨BJ k,aB,aB,aB,aB,fun a h=>by simp at h,fun a h=>by simp at h,fun a h=>by simp at h⟩,fun a h=>by simp at h,fun a h=>by simp at h,fun a h=>by simp at h,by rw [r9]; exact hk,U _,U _,U _,U _⟩
theorem Ov (has vals:List Int):dW ((jJ has vals 7).map r5):=⟨_,Tn has vals,rfl⟩
abbrev Wm (b:Br):Prop:=SnK b/\Go.Proofs.YtkcfgbddlpomgaaGreat.Sb.iP b/\b.near=tH b.near.length
theorem Wn (zn:Int) (v:Value) (n:Nat) (w:World) (h1:-9223372036854775808<=zn) (h2:zn<=9223372036854775807) (hs:Ll w v n) (hn:n<=maxLen) :
  Calls X 7 #[.agg #[L O zn,v]] w fun e w'=>(∃ (b:Br) (nv av sv ev ov:Sl),e=aH (mJ b.me nv av sv ev ov)/\vY w' b nv av sv ev ov/\KI 12 b/\1<=b.near.length/\Wm b)/\Below w.heap.size w w':=by
 obtain⟨so,sc,rfl⟩:=hs.shape;obtain⟨h0,g1,g2,g3⟩:=gX w #[L O zn,D so n sc] #[L O 0,D K 0 0,D K 0 0,D K 0 0,D K 0 0,D K 0 0] #[L O 0,D K 0 0,D K 0 0,D K 0 0,D K 0 0,D K 0 0] 24 33 33;have gU:=J (h0);have Mk:=J (g1);have agj:=J (g2);have ad3:=J (g3);have HS:=J hs;have HN:=J hn;clear h0 g1 g2 g3 hs hn;go_enter Tryz.func7,Tryz.ntmps7;go_upto_region 2 with fail;generalize (((w.alloc (aj #[L O zn,D so n sc] 24)).alloc (aj #[L O 0,D K 0 0,D K 0 0,D K 0 0,D K 0 0,D K 0 0] 33)).alloc (aj #[L O 0,D K 0 0,D K 0 0,D K 0 0,D K 0 0,D K 0 0] 33))=W at *;have WI:=aU zn 1 4 W (by decide) (by decide) (by decide) h1 h2;have WB:=aT zn 1 4 (by decide);generalize aC zn 1 4=y at *;obtain⟨m,rfl⟩:∃ m:Nat,y=m:=⟨y.toNat,by omega⟩;have M1:=J (show 1<=m from by omega);have M4:m<=4:=by omega
 clear WB h1 h2;obtain⟨x0,x1⟩:=Mk.out.cs2;go_wp2_with fail;refine WI.mono ?_;rintro e1 w1 ⟨rfl,rfl⟩;clear WI;clear x0 x1;go_wp2_with fail
 go_loopw [15] (fun i wr=>∃ (k:Nat) (a:Option Addr) (c:Nat),k<=m/\i=L O k/\Below w.heap.size w wr/\dN wr w.heap.size #[L O zn,D so n sc] 24/\dN wr (w.heap.size+1) #[L O 0,D K 0 0,D K 0 0,D K 0 0,D K 0 0,D K 0 0] 33/\dN wr (w.heap.size+1+1) #[L O 0,D a k c,D K 0 0,D K 0 0,D K 0 0,D K 0 0] 33/\kS wr (w.heap.size+3) (D a k c) (tH k)/\w.heap.size+3<=wr.heap.size) (fun i _=>m-(intOf i).toNat)
 case atStart=>exact⟨0,K,0,aQ _,rfl,gU.out,Mk.out,agj.out,ad3.out,gB _ _,by have:=ad3.out.lt; omega⟩
 case round =>
  clear gU Mk agj ad3;obtain⟨k,a,c,hk,rfl,hgb,hx1,hx2,hx3,hoe,hws⟩:=hrel;have oG:=J (hgb);have xE:=J (hx1);have Ox:=J (hx2);have xG:=J (hx3);have JL:=J (hoe);have WS:=J hws;clear hgb hx1 hx2 hx3 hoe hws;by_cases hlt:k<m
  ·have hlt':(k:Int)<(m:Int):=by omega
   have hw:IntKind.i64.wrap ((k:Int)+1)=(k:Int)+1:=IntWalk.i64_in _ (by omega);have c1:=xG.out.cell 1;simp only [ay,ak,au] at c1;have hl:=iD Nm.Hl wr [(k:Int)+1] 1 rfl (by simp) #[L O ((k:Int)+1)] (by rfl);have NB:=fI wr (aj #[L O ((k:Int)+1)] 3);have d1:=(xG.out.on NB).cell 1;simp only [ay,ak,au] at d1;have BP:=J (oG.out.trans (NB.mono oG.out.size));have JM:=J (xE.out.on NB);have abb:=J (Ox.out.on NB);have Wo:=J (xG.out.on NB);have Oy:=J (Bk.dG JL.out NB);clear oG xE Ox xG JL;obtain⟨v',x1,q1,oa,ga⟩:=gG Nm.Hl (w.heap.size+3) Oy.out (Row.dH hl) (by rw [r9]; omega) (by simp) (V WS.out NB.size) 25;have q1:(aJ #[25,25] 25 #[D a k c,D (Y ⟨wr.heap.size,0,K⟩) 1 1]).run X (wr.alloc (aj #[L O ((k:Int)+1)] 3))=.ok v' x1:=q1;rw [<- BD] at oa;obtain⟨a2,c2,hv⟩:=(Row.dH oa).len;rw [r9] at hv;subst hv;have KX:=fun (bb:Nat) (cs:Array Value) (tt:TypeId) (hbb:bb<w.heap.size+3) (hb:dN (wr.alloc (aj #[L O ((k:Int)+1)] 3)) bb cs tt)=>show dN x1 bb cs tt from (ga.block bb hb.lt (fun e=>by have:=(Oy.out.lt bb e.symm).1; omega)).trans hb;have V1:=J (KX _ _ _ (by omega) JM.out);have V2:=J (KX _ _ _ (by omega) abb.out);have V3:=J (KX _ _ _ (by omega) Wo.out);have VG:=J (BP.out.grown ga (by have:=WS.out; have:=NB.size; omega) fun j hj=>by have:=(Oy.out.lt j hj).1; omega);have VO:=J oa;have VS:=J (V (V WS.out NB.size) ga.size);clear KX hl NB oa ga BP JM abb Wo Oy;have e1:=V3.out.cell 1;have f1:=V3.out.fr 1;have zz:=V3.out.lt;simp only [ay,ak,au] at e1;go_upto_region 6 with (first | (at_builtin; refine wpList_append_run rfl _ _ 25 rfl rfl rfl q1 ?_) | fail)
   clear zz e1 f1 c1 d1 q1;have U3:=dR (k:=1) V3.out (D a2 (k+1) c2);simp only [List.setIfInBounds_toArray,List.set_cons_zero,List.set_cons_succ] at U3;have BK:=dY x1 (w.heap.size+1+1) 1 (D a2 (k+1) c2);have UG:=J (VG.out.setCell (p:=⟨w.heap.size+1+1,1,K⟩) (by show w.heap.size<=w.heap.size+1+1; omega) (D a2 (k+1) c2));have U1:=J (BK.box V1.out (by omega));have U2:=J (BK.box V2.out (by omega));have U3:=J U3;have UO:=J (dP VO.out (w.heap.size+1+1) 1 (D a2 (k+1) c2) (by omega));have US:=J (show w.heap.size+3<=(x1.setCell ⟨w.heap.size+1+1,1,K⟩ (D a2 (k+1) c2)).heap.size from by have:=VS.out; simpa using this);clear BK V1 V2 V3 VG VO VS;generalize x1.setCell ⟨w.heap.size+1+1,1,K⟩ (D a2 (k+1) c2)=x2 at *;go_wp2_with fail
   go_roundw
   case rel=>exact⟨k+1,a2,c2,hlt,by go_num,UG.out,U1.out,U2.out,U3.out,UO.out,US.out⟩
   case measure=>simp [intOf]; omega
  ·obtain rfl:k=m:=by omega
   have BR:=J (show vY wr ⟨0,tH k,[],[],[],[]⟩ (a,k,c) (K,0,0) (K,0,0) (K,0,0) (K,0,0) from ⟨Ve wr 0 (Row.dH JL.out),_,JL.out⟩);have KK:=J (ad2 k M4);have NL:=J (show 1<=(tH k).length from by rw [r9]; exact M1.out);go_wp2_with fail
   go_loopw [5] (fun i wr=>∃ (k:Nat) (b:Br) (o1:Option Addr) (n1 c1:Nat) (o2:Option Addr) (n2 c2:Nat) (o3:Option Addr) (n3 c3:Nat) (o4:Option Addr) (n4 c4:Nat) (o5:Option Addr) (n5 c5:Nat),k<=n/\k<=12/\i=L O k/\Below w.heap.size w wr/\dN wr w.heap.size #[L O zn,D so n sc] 24/\dN wr (w.heap.size+1) #[L O 0,D K 0 0,D K 0 0,D K 0 0,D K 0 0,D K 0 0] 33/\dN wr (w.heap.size+1+1) #[L O 0,D o1 n1 c1,D o2 n2 c2,D o3 n3 c3,D o4 n4 c4,D o5 n5 c5] 33/\vY wr b (o1,n1,c1) (o2,n2,c2) (o3,n3,c3) (o4,n4,c4) (o5,n5,c5)/\KI k b/\b.me=0/\1<=b.near.length/\Wm b) (fun i _=>12-(intOf i).toNat)
   case atStart=>exact⟨0,⟨0,tH k,[],[],[],[]⟩,a,k,c,K,0,0,K,0,0,K,0,0,K,0,0,aQ _,aQ _,rfl,oG.out,xE.out,Ox.out,xG.out,BR.out,KK.out,rfl,NL.out,⟨⟨fun x h=>by simp at h,fun x h=>by simp at h,fun x h=>by simp at h⟩,fun a h=>by simp at h,by rw [r9]⟩⟩
   case round =>
    clear WS BR KK NL oG xE Ox xG JL;obtain⟨i,b,o1,n1,c1,o2,n2,c2,o3,n3,c3,o4,n4,c4,o5,n5,c5,hin,Zo,rfl,hgb,hx1,hx2,hx3,hbr,hki,hme,hnl,hsn⟩:=hrel;have iw:=J (hgb);have Oz:=J (hx1);have Cb:=J (hx2);have Wp:=J (hx3);have Wq:=J (hbr);have KK:=J hki;have ME:=J hme;have NL:=J hnl;have SN:=J hsn;clear hgb hx1 hx2 hx3 hbr hki hme hnl hsn;by_cases hlt:i<n/\i<12
    ·obtain⟨hc,h12⟩:=hlt;have hc':(i:Int)<(n:Int):=by omega
     have amg:(i:Int)<12:=by omega
     have hw:IntKind.i64.wrap ((i:Int)+1)=(i:Int)+1:=IntWalk.i64_in _ (by omega);obtain⟨p,z0,z1,z2,z3,z4,h1,h2,h3,g1,g2,g3,has,vals,hpl,ix,pz,dz,ih,iv,hll⟩:=HS.out.at_ i hc;have p0:=pz 0 _ rfl;have p1:=pz 1 _ rfl;have p2:=pz 2 _ rfl;have p3:=pz 3 _ rfl;have p4:=pz 4 _ rfl;have p5:=pz 5 _ rfl;have p6:=pz 6 _ rfl;simp [Addr.add] at p0 p1 p2 p3 p4 p5 p6;have r0:wr.cell? p=Y (L O z0):=(iw.out.cell (show (p:Addr).block<w.heap.size from hpl)).trans p0;have r1:wr.cell? ⟨p.block,p.off+1,K⟩=Y (L O z1):=(iw.out.cell (show (⟨p.block,p.off+1,K⟩:Addr).block<w.heap.size from hpl)).trans p1;have r2:wr.cell? ⟨p.block,p.off+2,K⟩=Y (L O z2):=(iw.out.cell (show (⟨p.block,p.off+2,K⟩:Addr).block<w.heap.size from hpl)).trans p2;have r3:wr.cell? ⟨p.block,p.off+3,K⟩=Y (L O z3):=(iw.out.cell (show (⟨p.block,p.off+3,K⟩:Addr).block<w.heap.size from hpl)).trans p3;have r4:wr.cell? ⟨p.block,p.off+4,K⟩=Y (L O z4):=(iw.out.cell (show (⟨p.block,p.off+4,K⟩:Addr).block<w.heap.size from hpl)).trans p4;have r5:wr.cell? ⟨p.block,p.off+5,K⟩=Y (D h1 h2 h3):=(iw.out.cell (show (⟨p.block,p.off+5,K⟩:Addr).block<w.heap.size from hpl)).trans p5;have r6:wr.cell? ⟨p.block,p.off+6,K⟩=Y (D g1 g2 g3):=(iw.out.cell (show (⟨p.block,p.off+6,K⟩:Addr).block<w.heap.size from hpl)).trans p6;have IH0:=J ih;have IV0:=J iv;have DZ:=J dz;have LL:=J hll;clear p0 p1 p2 p3 p4 p5 p6 pz ih iv dz hll;obtain⟨x0,x1⟩:=Oz.out.cs2;go_upto_region 11 with fail;clear r0 r1 r2 r3 r4 r5 r6 ix hpl;clear x0 x1;have NN:=fI wr (aj #[L O z0,L O z1,L O z2,L O z3,L O z4,D h1 h2 h3,D g1 g2 g3] 83);have oC:=J (iw.out.trans (NN.mono iw.out.size));have abd:=J (Oz.out.on NN);have abe:=J (Cb.out.on NN);have abf:=J (Wp.out.on NN);have abg:=J (Wq.out.on NN);clear iw Oz Cb Wp Wq;have qD:=J (dO wr #[L O z0,L O z1,L O z2,L O z3,L O z4,D h1 h2 h3,D g1 g2 g3] 83);clear NN;generalize wr.alloc (aj #[L O z0,L O z1,L O z2,L O z3,L O z4,D h1 h2 h3,D g1 g2 g3] 83)=wa at *;have WI:=aU z2 0 2 wa (by decide) (by decide) (by decide) DZ.out.2.2.1.1 DZ.out.2.2.1.2;have TB:=J (aT z2 0 2 (by decide)).2;generalize aC z2 0 2=tt at *;obtain⟨q0,q1,q2,q3,q4,q5,q6⟩:=qD.out.oI;go_wp2_with fail;refine WI.mono ?_;rintro e2 w2 ⟨rfl,rfl⟩;clear WI;go_upto_region 12 with fail;clear q0 q1 q2 q3 q4 q5 q6;have NN:=fI wa (aj #[L O tt,L O 0] 38);have lY:=J (oC.out.trans (NN.mono oC.out.size));have abh:=J (abd.out.on NN);have abj:=J (abe.out.on NN);have vI:=J (abf.out.on NN);have abk:=J (abg.out.on NN);have xu:=J (qD.out.on NN);clear oC abd abe abf abg qD;have abl:=J (dO wa #[L O tt,L O 0] 38);clear NN;generalize wa.alloc (aj #[L O tt,L O 0] 38)=wb at *;refine aiT _ wb wr.heap.size z0 z1 z2 z3 z4 h1 h2 h3 g1 g2 g3 _ _ _ _ _ _ _ _ _ _ _ _ _ _ _ _ _ _ _ _ _ _ _ _ _ _ _ _ _ _ _ _ _ _ _ _ _ _ _ _ _ _ _ _ _ _ _ _ _ _ _ _ _ _ _ _ _ _ _ _ _ _ _ _ _ _ _ _ _ _ _ _ _ _ _ _ _ _ _ _ _ _ _ _ _ _ _ _ _ _ _ _ _ _ _ _ _ _ _ _ _ _ _ _ _ _ _ _ _ _ _ _ _ _ _ _ _ _ _ _ _ _ _ xu.out DZ.out.2.2.2.1 DZ.out.2.2.2.2 ?_;intro wc b8 v46 v47 v48 v49 v50 v51 v52 hb8 hbx hbel;have qE:=J (lY.out.trans (hbel.mono lY.out.size));have abm:=J (abh.out.on hbel);have abn:=J (abj.out.on hbel);have mX:=J (vI.out.on hbel);have Ws:=J (abk.out.on hbel);have xA:=J (xu.out.on hbel);have abo:=J (abl.out.on hbel);clear lY abh abj vI abk xu abl;have abp:=J (hbx);clear hbx hbel;have IB:=J (show K4 (aC z3 0 4) from aT z3 0 4 (by decide));generalize aC z3 0 4=i1 at *;generalize aC z4 0 2=i2 at *;have SD:=Wd 0 z1 (o1,n1,c1) (D o2 n2 c2) (D o3 n3 c3) (D o4 n4 c4) (D o5 n5 c5) b.near wc Ws.out.br.near (by have:=KK.out.ln; omega) DZ.out.2.1.1 DZ.out.2.1.2;have SC:=J (Mg b.near z1);generalize Eu b.near z1=f at *;obtain⟨x0,x1,x2,x3,x4,x5⟩:=mX.out.fB;obtain⟨q0,q1,q2,q3,q4,q5,q6⟩:=xA.out.oI;go_wp2_with fail;refine SD.mono ?_;rintro e3 wd ⟨rfl,hb⟩;clear SD;clear x0 x1 x2 x3 x4 x5 q0 q1 q2 q3 q4 q5 q6;have JN:=J (qE.out.trans (hb.mono qE.out.size));have abq:=J (abm.out.on hb);have abr:=J (abn.out.on hb);have abt:=J (mX.out.on hb);have abu:=J (Ws.out.on hb);have Wt:=J (xA.out.on hb);have Wu:=J (abo.out.on hb);have Wv:=J (abp.out.on hb);clear qE abm abn mX Ws xA abo abp;clear hb;go_upto_region 14 with fail;refine aiW _ wd wr.heap.size wa.heap.size b8 z0 z1 z2 z3 z4 tt 0 i1 i2 h1 h2 h3 g1 g2 g3 has vals _ _ _ _ _ _ _ _ _ _ _ _ _ _ _ _ _ _ _ _ _ _ _ _ _ _ _ _ _ _ _ _ _ _ _ _ _ _ _ _ _ _ _ _ _ _ _ _ _ _ _ _ _ _ _ _ _ _ _ _ _ _ _ _ _ _ _ _ _ _ _ _ _ _ _ _ _ _ _ _ _ _ _ _ _ _ _ _ _ _ _ _ _ _ _ _ _ _ _ _ _ _ _ _ _ _ _ _ _ _ _ _ _ _ _ _ _ _ _ _ _ Wt.out DZ.out.1 Wu.out Wv.out (IH0.out.on JN.out) (IV0.out.on JN.out) LL.out.1 LL.out.2 ?_;intro we b10 v57 v58 v59 v60 v61 v62 v63 v64 v65 m1 m2 m3 amj hbx hown hbel;have jX:=J (JN.out.trans (hbel.mono JN.out.size));have ny:=J (abq.out.on hbel);have nA:=J (abr.out.on hbel);have jW:=J (abt.out.on hbel);have kY:=J (abu.out.on hbel);have rX:=J (Wt.out.on hbel);have vJ:=J (Wu.out.on hbel);have vK:=J (Wv.out.on hbel);clear JN abq abr abt abu Wt Wu Wv;have qR:=J (hbx);have PR:=J (Row.dH hown);have RP:=J (AZ has vals);have OP:=J (Ov has vals);clear hbx hown hbel;have MB:=aT z0 1 7 (by decide);generalize aC z0 1 7=mk at *;generalize (jJ has vals 7).map r5=pp at *;have KA:=KK.out.ls;have KB:=KK.out.la;have KC:=KK.out.lo;have KD:=KK.out.le;have KE:=KK.out.ln;have CS:=J (fun mk2 h=>Q0 b (o1,n1,c1) (o2,n2,c2) (o3,n3,c3) (o4,n4,c4) (o5,n5,c5) f mk2 (tt,0) (i1,i2) (m1,m2,m3) (K,0,0) pp we kY.out.br PR.out h (by omega) (by omega) (by omega) (by omega) KK.out.pe KK.out.po OP.out KK.out.kn);have CA:=J (Jo b (o1,n1,c1) (o2,n2,c2) (o3,n3,c3) (o4,n4,c4) (o5,n5,c5) f (tt,0) (m1,m2,m3) pp we kY.out.br PR.out (by omega) (by omega) (by omega) (by omega) KK.out.pe KK.out.po OP.out);have CB:=J (Q6 b (o1,n1,c1) (o2,n2,c2) (o3,n3,c3) (o4,n4,c4) (o5,n5,c5) (i1,i2) (m1,m2,m3) pp we kY.out.br PR.out (by omega) (by omega) (by omega) KK.out.pe KK.out.pa OP.out);have CU:=J (IY b (o1,n1,c1) (o2,n2,c2) (o3,n3,c3) (o4,n4,c4) (o5,n5,c5) (i1,i2) we kY.out.br (by omega) (by omega) (by omega) KK.out.pe KK.out.kn);rw [ME.out] at CS CA CB CU;clear KA KB KC KD KE;obtain⟨x0,x1,x2,x3,x4,x5⟩:=jW.out.fB;obtain⟨F9,y_1⟩:=vK.out.cs2;obtain⟨z0,z1⟩:=vJ.out.cs2;obtain⟨q0,q1,q2,q3,q4,q5,q6⟩:=qR.out.oI;rcases (by omega:mk=1\/mk=2\/mk=3\/mk=4\/mk=5\/mk=6\/mk=7) with rfl|rfl|rfl|rfl|rfl|rfl|rfl
     ·go_wp2_with fail;refine (CS.out 1 (by decide)).mono ?_;rintro e5 wf ⟨⟨⟨aa,an,ac⟩,⟨sa,sn,iV⟩,⟨ea,en,ec⟩,_,rfl,hbr,_⟩,hb⟩;clear CS CA CB CU;clear x0 x1 x2 x3 x4 x5 F9 y_1 z0 z1 q0 q1 q2 q3 q4 q5 q6;have nZ:=J (zH b f 1 (tt,0) (i1,i2) pp);have JO:=J (KK.out.step h12 f 1 (tt,0) (i1,i2) pp SC.out RP.out OP.out);have BN:=J (show vY wf (j5 b f 1 (tt,0) (i1,i2) pp).1 (o1,n1,c1) (aa,an,ac) (sa,sn,iV) (ea,en,ec) (o5,n5,c5) from ⟨hbr,by rw [nZ.out.2.1]; exact (kY.out.on hb).no⟩);clear hbr;clear kY rX vJ vK qR;have j6:=J (jX.out.trans (hb.mono jX.out.size));have kg:=J (ny.out.on hb);have ko:=J (nA.out.on hb);have fH:=J (jW.out.on hb);clear jX ny nA jW;clear hb;obtain⟨k0,k1,k2,k3,k4,k5⟩:=fH.out.fB;obtain⟨rA,rD,rE,rF,rG,rH⟩:=fH.out.kJ;have zz:=fH.out.lt;have G1:=J (dI (b:=w.heap.size+1+1) j6.out (by omega) (L O 0) (D o1 n1 c1) (D aa an ac) (D sa sn iV) (D ea en ec) (D o5 n5 c5));have G3:=J (dM fH.out (L O 0) (D o1 n1 c1) (D aa an ac) (D sa sn iV) (D ea en ec) (D o5 n5 c5));have Ga:=J (show dN _ _ _ _ from (dL wf (w.heap.size+1+1) (L O 0) (D o1 n1 c1) (D aa an ac) (D sa sn iV) (D ea en ec) (D o5 n5 c5) w.heap.size (by omega)).trans kg.out);have Gb:=J (show dN _ _ _ _ from (dL wf (w.heap.size+1+1) (L O 0) (D o1 n1 c1) (D aa an ac) (D sa sn iV) (D ea en ec) (D o5 n5 c5) (w.heap.size+1) (by omega)).trans ko.out);have GN:=J (BN.out.keep (s1:=(o1,n1,c1)) (s2:=(o2,n2,c2)) (s3:=(o3,n3,c3)) (s4:=(o4,n4,c4)) (s5:=(o5,n5,c5)) fH.out (fZ wf (w.heap.size+1+1) (L O 0) (D o1 n1 c1) (D aa an ac) (D sa sn iV) (D ea en ec) (D o5 n5 c5)));clear BN j6 kg ko fH;go_upto_region 9 with fail;clear zz k0 k1 k2 k3 k4 k5 rA rD rE rF rG rH;unfold gY at G1 G3 Ga Gb GN;generalize ((((((wf.setCell ⟨w.heap.size+1+1,0,K⟩ (L O 0)).setCell ⟨w.heap.size+1+1,1,K⟩ (D o1 n1 c1)).setCell ⟨w.heap.size+1+1,2,K⟩ (D aa an ac)).setCell ⟨w.heap.size+1+1,3,K⟩ (D sa sn iV)).setCell ⟨w.heap.size+1+1,4,K⟩ (D ea en ec)).setCell ⟨w.heap.size+1+1,5,K⟩ (D o5 n5 c5))=wg at *;have MX:=J (nZ.out.1.trans ME.out);have NX:=J (show 1<=((j5 b f 1 (tt,0) (i1,i2) pp).1).near.length from by rw [nZ.out.2.1]; exact NL.out);have SX:=J (show Wm ((j5 b f 1 (tt,0) (i1,i2) pp).1) from ⟨⟨fun x hx=>by rcases nZ.out.2.2 x hx with h | h; exact SN.out.1.1 x h; rw [h]; exact TB.out,zG SN.out.1.2 _ _ _ _ _ IB.out⟩,Go.Proofs.YtkcfgbddlpomgaaGreat.Sb.qF KK.out.ok SN.out.2.1 _ _ _ _ _ SC.out RP.out,by rw [nZ.out.2.1]; exact SN.out.2.2⟩);go_wp2_with fail
      go_roundw
      case rel=>exact⟨i+1,(j5 b f 1 (tt,0) (i1,i2) pp).1,o1,n1,c1,aa,an,ac,sa,sn,iV,ea,en,ec,o5,n5,c5,hc,h12,by go_num,G1.out,Ga.out,Gb.out,G3.out,GN.out,JO.out,MX.out,NX.out,SX.out⟩
      case measure=>simp [intOf]; omega
     ·go_wp2_with fail;refine (CS.out 2 (by decide)).mono ?_;rintro e5 wf ⟨⟨⟨aa,an,ac⟩,⟨sa,sn,iV⟩,⟨ea,en,ec⟩,_,rfl,hbr,_⟩,hb⟩;clear CS CA CB CU;clear x0 x1 x2 x3 x4 x5 F9 y_1 z0 z1 q0 q1 q2 q3 q4 q5 q6;have nZ:=J (zH b f 2 (tt,0) (i1,i2) pp);have JO:=J (KK.out.step h12 f 2 (tt,0) (i1,i2) pp SC.out RP.out OP.out);have BN:=J (show vY wf (j5 b f 2 (tt,0) (i1,i2) pp).1 (o1,n1,c1) (aa,an,ac) (sa,sn,iV) (ea,en,ec) (o5,n5,c5) from ⟨hbr,by rw [nZ.out.2.1]; exact (kY.out.on hb).no⟩);clear hbr;clear kY rX vJ vK qR;have j6:=J (jX.out.trans (hb.mono jX.out.size));have kg:=J (ny.out.on hb);have ko:=J (nA.out.on hb);have fH:=J (jW.out.on hb);clear jX ny nA jW;clear hb;obtain⟨k0,k1,k2,k3,k4,k5⟩:=fH.out.fB;obtain⟨rA,rD,rE,rF,rG,rH⟩:=fH.out.kJ;have zz:=fH.out.lt;have G1:=J (dI (b:=w.heap.size+1+1) j6.out (by omega) (L O 0) (D o1 n1 c1) (D aa an ac) (D sa sn iV) (D ea en ec) (D o5 n5 c5));have G3:=J (dM fH.out (L O 0) (D o1 n1 c1) (D aa an ac) (D sa sn iV) (D ea en ec) (D o5 n5 c5));have Ga:=J (show dN _ _ _ _ from (dL wf (w.heap.size+1+1) (L O 0) (D o1 n1 c1) (D aa an ac) (D sa sn iV) (D ea en ec) (D o5 n5 c5) w.heap.size (by omega)).trans kg.out);have Gb:=J (show dN _ _ _ _ from (dL wf (w.heap.size+1+1) (L O 0) (D o1 n1 c1) (D aa an ac) (D sa sn iV) (D ea en ec) (D o5 n5 c5) (w.heap.size+1) (by omega)).trans ko.out);have GN:=J (BN.out.keep (s1:=(o1,n1,c1)) (s2:=(o2,n2,c2)) (s3:=(o3,n3,c3)) (s4:=(o4,n4,c4)) (s5:=(o5,n5,c5)) fH.out (fZ wf (w.heap.size+1+1) (L O 0) (D o1 n1 c1) (D aa an ac) (D sa sn iV) (D ea en ec) (D o5 n5 c5)));clear BN j6 kg ko fH;go_upto_region 9 with fail;clear zz k0 k1 k2 k3 k4 k5 rA rD rE rF rG rH;unfold gY at G1 G3 Ga Gb GN;generalize ((((((wf.setCell ⟨w.heap.size+1+1,0,K⟩ (L O 0)).setCell ⟨w.heap.size+1+1,1,K⟩ (D o1 n1 c1)).setCell ⟨w.heap.size+1+1,2,K⟩ (D aa an ac)).setCell ⟨w.heap.size+1+1,3,K⟩ (D sa sn iV)).setCell ⟨w.heap.size+1+1,4,K⟩ (D ea en ec)).setCell ⟨w.heap.size+1+1,5,K⟩ (D o5 n5 c5))=wg at *;have MX:=J (nZ.out.1.trans ME.out);have NX:=J (show 1<=((j5 b f 2 (tt,0) (i1,i2) pp).1).near.length from by rw [nZ.out.2.1]; exact NL.out);have SX:=J (show Wm ((j5 b f 2 (tt,0) (i1,i2) pp).1) from ⟨⟨fun x hx=>by rcases nZ.out.2.2 x hx with h | h; exact SN.out.1.1 x h; rw [h]; exact TB.out,zG SN.out.1.2 _ _ _ _ _ IB.out⟩,Go.Proofs.YtkcfgbddlpomgaaGreat.Sb.qF KK.out.ok SN.out.2.1 _ _ _ _ _ SC.out RP.out,by rw [nZ.out.2.1]; exact SN.out.2.2⟩);go_wp2_with fail
      go_roundw
      case rel=>exact⟨i+1,(j5 b f 2 (tt,0) (i1,i2) pp).1,o1,n1,c1,aa,an,ac,sa,sn,iV,ea,en,ec,o5,n5,c5,hc,h12,by go_num,G1.out,Ga.out,Gb.out,G3.out,GN.out,JO.out,MX.out,NX.out,SX.out⟩
      case measure=>simp [intOf]; omega
     ·by_cases hf:f=-1
      ·subst hf;go_wp2_with fail;refine CA.out.mono ?_;rintro e5 wf ⟨⟨⟨aa,an,ac⟩,⟨sa,sn,iV⟩,⟨ea,en,ec⟩,_,rfl,hbr,_⟩,hb⟩;clear CS CA CB CU;clear x0 x1 x2 x3 x4 x5 F9 y_1 z0 z1 q0 q1 q2 q3 q4 q5 q6;have nZ:=J (Gt b (-1) (tt,0) pp);have JO:=J (KK.out.dQ h12 (-1) (tt,0) pp SC.out RP.out OP.out);have BN:=J (show vY wf (lH b (-1) (tt,0) pp).1 (o1,n1,c1) (aa,an,ac) (sa,sn,iV) (ea,en,ec) (o5,n5,c5) from ⟨hbr,by rw [nZ.out.2.1]; exact (kY.out.on hb).no⟩);clear hbr;clear kY rX vJ vK qR;have j6:=J (jX.out.trans (hb.mono jX.out.size));have kg:=J (ny.out.on hb);have ko:=J (nA.out.on hb);have fH:=J (jW.out.on hb);clear jX ny nA jW;clear hb;obtain⟨k0,k1,k2,k3,k4,k5⟩:=fH.out.fB;obtain⟨rA,rD,rE,rF,rG,rH⟩:=fH.out.kJ;have zz:=fH.out.lt;have G1:=J (dI (b:=w.heap.size+1+1) j6.out (by omega) (L O 0) (D o1 n1 c1) (D aa an ac) (D sa sn iV) (D ea en ec) (D o5 n5 c5));have G3:=J (dM fH.out (L O 0) (D o1 n1 c1) (D aa an ac) (D sa sn iV) (D ea en ec) (D o5 n5 c5));have Ga:=J (show dN _ _ _ _ from (dL wf (w.heap.size+1+1) (L O 0) (D o1 n1 c1) (D aa an ac) (D sa sn iV) (D ea en ec) (D o5 n5 c5) w.heap.size (by omega)).trans kg.out);have Gb:=J (show dN _ _ _ _ from (dL wf (w.heap.size+1+1) (L O 0) (D o1 n1 c1) (D aa an ac) (D sa sn iV) (D ea en ec) (D o5 n5 c5) (w.heap.size+1) (by omega)).trans ko.out);have GN:=J (BN.out.keep (s1:=(o1,n1,c1)) (s2:=(o2,n2,c2)) (s3:=(o3,n3,c3)) (s4:=(o4,n4,c4)) (s5:=(o5,n5,c5)) fH.out (fZ wf (w.heap.size+1+1) (L O 0) (D o1 n1 c1) (D aa an ac) (D sa sn iV) (D ea en ec) (D o5 n5 c5)));clear BN j6 kg ko fH;go_upto_region 9 with fail;clear zz k0 k1 k2 k3 k4 k5 rA rD rE rF rG rH;unfold gY at G1 G3 Ga Gb GN;generalize ((((((wf.setCell ⟨w.heap.size+1+1,0,K⟩ (L O 0)).setCell ⟨w.heap.size+1+1,1,K⟩ (D o1 n1 c1)).setCell ⟨w.heap.size+1+1,2,K⟩ (D aa an ac)).setCell ⟨w.heap.size+1+1,3,K⟩ (D sa sn iV)).setCell ⟨w.heap.size+1+1,4,K⟩ (D ea en ec)).setCell ⟨w.heap.size+1+1,5,K⟩ (D o5 n5 c5))=wg at *;have MX:=J (nZ.out.1.trans ME.out);have NX:=J (show 1<=((lH b (-1) (tt,0) pp).1).near.length from by rw [nZ.out.2.1]; exact NL.out);have SX:=J (show Wm ((lH b (-1) (tt,0) pp).1) from ⟨⟨fun x hx=>by rcases nZ.out.2.2 x hx with h | h; exact SN.out.1.1 x h; rw [h]; exact TB.out,Gr SN.out.1.2 _ _ _⟩,Go.Proofs.YtkcfgbddlpomgaaGreat.Sb.uS KK.out.ok SN.out.2.1 _ _ _ SC.out RP.out,by rw [nZ.out.2.1]; exact SN.out.2.2⟩);go_wp2_with fail
       go_roundw
       case rel=>exact⟨i+1,(lH b (-1) (tt,0) pp).1,o1,n1,c1,aa,an,ac,sa,sn,iV,ea,en,ec,o5,n5,c5,hc,h12,by go_num,G1.out,Ga.out,Gb.out,G3.out,GN.out,JO.out,MX.out,NX.out,SX.out⟩
       case measure=>simp [intOf]; omega
      ·have hfm:(f == -1)=aN:=by simp [hf]
       go_wp2_with fail;refine (CS.out 3 (by decide)).mono ?_;rintro e5 wf ⟨⟨⟨aa,an,ac⟩,⟨sa,sn,iV⟩,⟨ea,en,ec⟩,_,rfl,hbr,_⟩,hb⟩;clear CS CA CB CU;clear x0 x1 x2 x3 x4 x5 F9 y_1 z0 z1 q0 q1 q2 q3 q4 q5 q6;have nZ:=J (zH b f 3 (tt,0) (i1,i2) pp);have JO:=J (KK.out.step h12 f 3 (tt,0) (i1,i2) pp SC.out RP.out OP.out);have BN:=J (show vY wf (j5 b f 3 (tt,0) (i1,i2) pp).1 (o1,n1,c1) (aa,an,ac) (sa,sn,iV) (ea,en,ec) (o5,n5,c5) from ⟨hbr,by rw [nZ.out.2.1]; exact (kY.out.on hb).no⟩);clear hbr;clear kY rX vJ vK qR;have j6:=J (jX.out.trans (hb.mono jX.out.size));have kg:=J (ny.out.on hb);have ko:=J (nA.out.on hb);have fH:=J (jW.out.on hb);clear jX ny nA jW;clear hb;obtain⟨k0,k1,k2,k3,k4,k5⟩:=fH.out.fB;obtain⟨rA,rD,rE,rF,rG,rH⟩:=fH.out.kJ;have zz:=fH.out.lt;have G1:=J (dI (b:=w.heap.size+1+1) j6.out (by omega) (L O 0) (D o1 n1 c1) (D aa an ac) (D sa sn iV) (D ea en ec) (D o5 n5 c5));have G3:=J (dM fH.out (L O 0) (D o1 n1 c1) (D aa an ac) (D sa sn iV) (D ea en ec) (D o5 n5 c5));have Ga:=J (show dN _ _ _ _ from (dL wf (w.heap.size+1+1) (L O 0) (D o1 n1 c1) (D aa an ac) (D sa sn iV) (D ea en ec) (D o5 n5 c5) w.heap.size (by omega)).trans kg.out);have Gb:=J (show dN _ _ _ _ from (dL wf (w.heap.size+1+1) (L O 0) (D o1 n1 c1) (D aa an ac) (D sa sn iV) (D ea en ec) (D o5 n5 c5) (w.heap.size+1) (by omega)).trans ko.out);have GN:=J (BN.out.keep (s1:=(o1,n1,c1)) (s2:=(o2,n2,c2)) (s3:=(o3,n3,c3)) (s4:=(o4,n4,c4)) (s5:=(o5,n5,c5)) fH.out (fZ wf (w.heap.size+1+1) (L O 0) (D o1 n1 c1) (D aa an ac) (D sa sn iV) (D ea en ec) (D o5 n5 c5)));clear BN j6 kg ko fH;go_upto_region 9 with fail;clear zz k0 k1 k2 k3 k4 k5 rA rD rE rF rG rH;unfold gY at G1 G3 Ga Gb GN;generalize ((((((wf.setCell ⟨w.heap.size+1+1,0,K⟩ (L O 0)).setCell ⟨w.heap.size+1+1,1,K⟩ (D o1 n1 c1)).setCell ⟨w.heap.size+1+1,2,K⟩ (D aa an ac)).setCell ⟨w.heap.size+1+1,3,K⟩ (D sa sn iV)).setCell ⟨w.heap.size+1+1,4,K⟩ (D ea en ec)).setCell ⟨w.heap.size+1+1,5,K⟩ (D o5 n5 c5))=wg at *;have MX:=J (nZ.out.1.trans ME.out);have NX:=J (show 1<=((j5 b f 3 (tt,0) (i1,i2) pp).1).near.length from by rw [nZ.out.2.1]; exact NL.out);have SX:=J (show Wm ((j5 b f 3 (tt,0) (i1,i2) pp).1) from ⟨⟨fun x hx=>by rcases nZ.out.2.2 x hx with h | h; exact SN.out.1.1 x h; rw [h]; exact TB.out,zG SN.out.1.2 _ _ _ _ _ IB.out⟩,Go.Proofs.YtkcfgbddlpomgaaGreat.Sb.qF KK.out.ok SN.out.2.1 _ _ _ _ _ SC.out RP.out,by rw [nZ.out.2.1]; exact SN.out.2.2⟩);go_wp2_with fail
       go_roundw
       case rel=>exact⟨i+1,(j5 b f 3 (tt,0) (i1,i2) pp).1,o1,n1,c1,aa,an,ac,sa,sn,iV,ea,en,ec,o5,n5,c5,hc,h12,by go_num,G1.out,Ga.out,Gb.out,G3.out,GN.out,JO.out,MX.out,NX.out,SX.out⟩
       case measure=>simp [intOf]; omega
     ·by_cases hf:f=-1
      ·subst hf;go_wp2_with fail;refine CA.out.mono ?_;rintro e5 wf ⟨⟨⟨aa,an,ac⟩,⟨sa,sn,iV⟩,⟨ea,en,ec⟩,_,rfl,hbr,_⟩,hb⟩;clear CS CA CB CU;clear x0 x1 x2 x3 x4 x5 F9 y_1 z0 z1 q0 q1 q2 q3 q4 q5 q6;have nZ:=J (Gt b (-1) (tt,0) pp);have JO:=J (KK.out.dQ h12 (-1) (tt,0) pp SC.out RP.out OP.out);have BN:=J (show vY wf (lH b (-1) (tt,0) pp).1 (o1,n1,c1) (aa,an,ac) (sa,sn,iV) (ea,en,ec) (o5,n5,c5) from ⟨hbr,by rw [nZ.out.2.1]; exact (kY.out.on hb).no⟩);clear hbr;clear kY rX vJ vK qR;have j6:=J (jX.out.trans (hb.mono jX.out.size));have kg:=J (ny.out.on hb);have ko:=J (nA.out.on hb);have fH:=J (jW.out.on hb);clear jX ny nA jW;clear hb;obtain⟨k0,k1,k2,k3,k4,k5⟩:=fH.out.fB;obtain⟨rA,rD,rE,rF,rG,rH⟩:=fH.out.kJ;have zz:=fH.out.lt;have G1:=J (dI (b:=w.heap.size+1+1) j6.out (by omega) (L O 0) (D o1 n1 c1) (D aa an ac) (D sa sn iV) (D ea en ec) (D o5 n5 c5));have G3:=J (dM fH.out (L O 0) (D o1 n1 c1) (D aa an ac) (D sa sn iV) (D ea en ec) (D o5 n5 c5));have Ga:=J (show dN _ _ _ _ from (dL wf (w.heap.size+1+1) (L O 0) (D o1 n1 c1) (D aa an ac) (D sa sn iV) (D ea en ec) (D o5 n5 c5) w.heap.size (by omega)).trans kg.out);have Gb:=J (show dN _ _ _ _ from (dL wf (w.heap.size+1+1) (L O 0) (D o1 n1 c1) (D aa an ac) (D sa sn iV) (D ea en ec) (D o5 n5 c5) (w.heap.size+1) (by omega)).trans ko.out);have GN:=J (BN.out.keep (s1:=(o1,n1,c1)) (s2:=(o2,n2,c2)) (s3:=(o3,n3,c3)) (s4:=(o4,n4,c4)) (s5:=(o5,n5,c5)) fH.out (fZ wf (w.heap.size+1+1) (L O 0) (D o1 n1 c1) (D aa an ac) (D sa sn iV) (D ea en ec) (D o5 n5 c5)));clear BN j6 kg ko fH;go_upto_region 9 with fail;clear zz k0 k1 k2 k3 k4 k5 rA rD rE rF rG rH;unfold gY at G1 G3 Ga Gb GN;generalize ((((((wf.setCell ⟨w.heap.size+1+1,0,K⟩ (L O 0)).setCell ⟨w.heap.size+1+1,1,K⟩ (D o1 n1 c1)).setCell ⟨w.heap.size+1+1,2,K⟩ (D aa an ac)).setCell ⟨w.heap.size+1+1,3,K⟩ (D sa sn iV)).setCell ⟨w.heap.size+1+1,4,K⟩ (D ea en ec)).setCell ⟨w.heap.size+1+1,5,K⟩ (D o5 n5 c5))=wg at *;have MX:=J (nZ.out.1.trans ME.out);have NX:=J (show 1<=((lH b (-1) (tt,0) pp).1).near.length from by rw [nZ.out.2.1]; exact NL.out);have SX:=J (show Wm ((lH b (-1) (tt,0) pp).1) from ⟨⟨fun x hx=>by rcases nZ.out.2.2 x hx with h | h; exact SN.out.1.1 x h; rw [h]; exact TB.out,Gr SN.out.1.2 _ _ _⟩,Go.Proofs.YtkcfgbddlpomgaaGreat.Sb.uS KK.out.ok SN.out.2.1 _ _ _ SC.out RP.out,by rw [nZ.out.2.1]; exact SN.out.2.2⟩);go_wp2_with fail
       go_roundw
       case rel=>exact⟨i+1,(lH b (-1) (tt,0) pp).1,o1,n1,c1,aa,an,ac,sa,sn,iV,ea,en,ec,o5,n5,c5,hc,h12,by go_num,G1.out,Ga.out,Gb.out,G3.out,GN.out,JO.out,MX.out,NX.out,SX.out⟩
       case measure=>simp [intOf]; omega
      ·have hfm:(f == -1)=aN:=by simp [hf]
       go_wp2_with fail;refine (CS.out 4 (by decide)).mono ?_;rintro e5 wf ⟨⟨⟨aa,an,ac⟩,⟨sa,sn,iV⟩,⟨ea,en,ec⟩,_,rfl,hbr,_⟩,hb⟩;clear CS CA CB CU;clear x0 x1 x2 x3 x4 x5 F9 y_1 z0 z1 q0 q1 q2 q3 q4 q5 q6;have nZ:=J (zH b f 4 (tt,0) (i1,i2) pp);have JO:=J (KK.out.step h12 f 4 (tt,0) (i1,i2) pp SC.out RP.out OP.out);have BN:=J (show vY wf (j5 b f 4 (tt,0) (i1,i2) pp).1 (o1,n1,c1) (aa,an,ac) (sa,sn,iV) (ea,en,ec) (o5,n5,c5) from ⟨hbr,by rw [nZ.out.2.1]; exact (kY.out.on hb).no⟩);clear hbr;clear kY rX vJ vK qR;have j6:=J (jX.out.trans (hb.mono jX.out.size));have kg:=J (ny.out.on hb);have ko:=J (nA.out.on hb);have fH:=J (jW.out.on hb);clear jX ny nA jW;clear hb;obtain⟨k0,k1,k2,k3,k4,k5⟩:=fH.out.fB;obtain⟨rA,rD,rE,rF,rG,rH⟩:=fH.out.kJ;have zz:=fH.out.lt;have G1:=J (dI (b:=w.heap.size+1+1) j6.out (by omega) (L O 0) (D o1 n1 c1) (D aa an ac) (D sa sn iV) (D ea en ec) (D o5 n5 c5));have G3:=J (dM fH.out (L O 0) (D o1 n1 c1) (D aa an ac) (D sa sn iV) (D ea en ec) (D o5 n5 c5));have Ga:=J (show dN _ _ _ _ from (dL wf (w.heap.size+1+1) (L O 0) (D o1 n1 c1) (D aa an ac) (D sa sn iV) (D ea en ec) (D o5 n5 c5) w.heap.size (by omega)).trans kg.out);have Gb:=J (show dN _ _ _ _ from (dL wf (w.heap.size+1+1) (L O 0) (D o1 n1 c1) (D aa an ac) (D sa sn iV) (D ea en ec) (D o5 n5 c5) (w.heap.size+1) (by omega)).trans ko.out);have GN:=J (BN.out.keep (s1:=(o1,n1,c1)) (s2:=(o2,n2,c2)) (s3:=(o3,n3,c3)) (s4:=(o4,n4,c4)) (s5:=(o5,n5,c5)) fH.out (fZ wf (w.heap.size+1+1) (L O 0) (D o1 n1 c1) (D aa an ac) (D sa sn iV) (D ea en ec) (D o5 n5 c5)));clear BN j6 kg ko fH;go_upto_region 9 with fail;clear zz k0 k1 k2 k3 k4 k5 rA rD rE rF rG rH;unfold gY at G1 G3 Ga Gb GN;generalize ((((((wf.setCell ⟨w.heap.size+1+1,0,K⟩ (L O 0)).setCell ⟨w.heap.size+1+1,1,K⟩ (D o1 n1 c1)).setCell ⟨w.heap.size+1+1,2,K⟩ (D aa an ac)).setCell ⟨w.heap.size+1+1,3,K⟩ (D sa sn iV)).setCell ⟨w.heap.size+1+1,4,K⟩ (D ea en ec)).setCell ⟨w.heap.size+1+1,5,K⟩ (D o5 n5 c5))=wg at *;have MX:=J (nZ.out.1.trans ME.out);have NX:=J (show 1<=((j5 b f 4 (tt,0) (i1,i2) pp).1).near.length from by rw [nZ.out.2.1]; exact NL.out);have SX:=J (show Wm ((j5 b f 4 (tt,0) (i1,i2) pp).1) from ⟨⟨fun x hx=>by rcases nZ.out.2.2 x hx with h | h; exact SN.out.1.1 x h; rw [h]; exact TB.out,zG SN.out.1.2 _ _ _ _ _ IB.out⟩,Go.Proofs.YtkcfgbddlpomgaaGreat.Sb.qF KK.out.ok SN.out.2.1 _ _ _ _ _ SC.out RP.out,by rw [nZ.out.2.1]; exact SN.out.2.2⟩);go_wp2_with fail
       go_roundw
       case rel=>exact⟨i+1,(j5 b f 4 (tt,0) (i1,i2) pp).1,o1,n1,c1,aa,an,ac,sa,sn,iV,ea,en,ec,o5,n5,c5,hc,h12,by go_num,G1.out,Ga.out,Gb.out,G3.out,GN.out,JO.out,MX.out,NX.out,SX.out⟩
       case measure=>simp [intOf]; omega
     ·go_wp2_with fail;refine CA.out.mono ?_;rintro e5 wf ⟨⟨⟨aa,an,ac⟩,⟨sa,sn,iV⟩,⟨ea,en,ec⟩,_,rfl,hbr,_⟩,hb⟩;clear CS CA CB CU;clear x0 x1 x2 x3 x4 x5 F9 y_1 z0 z1 q0 q1 q2 q3 q4 q5 q6;have nZ:=J (Gt b f (tt,0) pp);have JO:=J (KK.out.dQ h12 f (tt,0) pp SC.out RP.out OP.out);have BN:=J (show vY wf (lH b f (tt,0) pp).1 (o1,n1,c1) (aa,an,ac) (sa,sn,iV) (ea,en,ec) (o5,n5,c5) from ⟨hbr,by rw [nZ.out.2.1]; exact (kY.out.on hb).no⟩);clear hbr;clear kY rX vJ vK qR;have j6:=J (jX.out.trans (hb.mono jX.out.size));have kg:=J (ny.out.on hb);have ko:=J (nA.out.on hb);have fH:=J (jW.out.on hb);clear jX ny nA jW;clear hb;obtain⟨k0,k1,k2,k3,k4,k5⟩:=fH.out.fB;obtain⟨rA,rD,rE,rF,rG,rH⟩:=fH.out.kJ;have zz:=fH.out.lt;have G1:=J (dI (b:=w.heap.size+1+1) j6.out (by omega) (L O 0) (D o1 n1 c1) (D aa an ac) (D sa sn iV) (D ea en ec) (D o5 n5 c5));have G3:=J (dM fH.out (L O 0) (D o1 n1 c1) (D aa an ac) (D sa sn iV) (D ea en ec) (D o5 n5 c5));have Ga:=J (show dN _ _ _ _ from (dL wf (w.heap.size+1+1) (L O 0) (D o1 n1 c1) (D aa an ac) (D sa sn iV) (D ea en ec) (D o5 n5 c5) w.heap.size (by omega)).trans kg.out);have Gb:=J (show dN _ _ _ _ from (dL wf (w.heap.size+1+1) (L O 0) (D o1 n1 c1) (D aa an ac) (D sa sn iV) (D ea en ec) (D o5 n5 c5) (w.heap.size+1) (by omega)).trans ko.out);have GN:=J (BN.out.keep (s1:=(o1,n1,c1)) (s2:=(o2,n2,c2)) (s3:=(o3,n3,c3)) (s4:=(o4,n4,c4)) (s5:=(o5,n5,c5)) fH.out (fZ wf (w.heap.size+1+1) (L O 0) (D o1 n1 c1) (D aa an ac) (D sa sn iV) (D ea en ec) (D o5 n5 c5)));clear BN j6 kg ko fH;go_upto_region 9 with fail;clear zz k0 k1 k2 k3 k4 k5 rA rD rE rF rG rH;unfold gY at G1 G3 Ga Gb GN;generalize ((((((wf.setCell ⟨w.heap.size+1+1,0,K⟩ (L O 0)).setCell ⟨w.heap.size+1+1,1,K⟩ (D o1 n1 c1)).setCell ⟨w.heap.size+1+1,2,K⟩ (D aa an ac)).setCell ⟨w.heap.size+1+1,3,K⟩ (D sa sn iV)).setCell ⟨w.heap.size+1+1,4,K⟩ (D ea en ec)).setCell ⟨w.heap.size+1+1,5,K⟩ (D o5 n5 c5))=wg at *;have MX:=J (nZ.out.1.trans ME.out);have NX:=J (show 1<=((lH b f (tt,0) pp).1).near.length from by rw [nZ.out.2.1]; exact NL.out);have SX:=J (show Wm ((lH b f (tt,0) pp).1) from ⟨⟨fun x hx=>by rcases nZ.out.2.2 x hx with h | h; exact SN.out.1.1 x h; rw [h]; exact TB.out,Gr SN.out.1.2 _ _ _⟩,Go.Proofs.YtkcfgbddlpomgaaGreat.Sb.uS KK.out.ok SN.out.2.1 _ _ _ SC.out RP.out,by rw [nZ.out.2.1]; exact SN.out.2.2⟩);go_wp2_with fail
      go_roundw
      case rel=>exact⟨i+1,(lH b f (tt,0) pp).1,o1,n1,c1,aa,an,ac,sa,sn,iV,ea,en,ec,o5,n5,c5,hc,h12,by go_num,G1.out,Ga.out,Gb.out,G3.out,GN.out,JO.out,MX.out,NX.out,SX.out⟩
      case measure=>simp [intOf]; omega
     ·go_wp2_with fail;refine CB.out.mono ?_;rintro e5 wf ⟨⟨⟨ea,en,ec⟩,⟨oa,mW,oc⟩,_,rfl,hbr,_⟩,hb⟩;clear CS CA CB CU;clear x0 x1 x2 x3 x4 x5 F9 y_1 z0 z1 q0 q1 q2 q3 q4 q5 q6;have nZ:=J (Zm (tt,0) b (i1,i2) pp);have JO:=J (KK.out.subs h12 (i1,i2) pp RP.out OP.out);have BN:=J (show vY wf (kX b (i1,i2) pp).1 (o1,n1,c1) (o2,n2,c2) (o3,n3,c3) (ea,en,ec) (oa,mW,oc) from ⟨hbr,by rw [nZ.out.2.1]; exact (kY.out.on hb).no⟩);clear hbr;clear kY rX vJ vK qR;have j6:=J (jX.out.trans (hb.mono jX.out.size));have kg:=J (ny.out.on hb);have ko:=J (nA.out.on hb);have fH:=J (jW.out.on hb);clear jX ny nA jW;clear hb;obtain⟨k0,k1,k2,k3,k4,k5⟩:=fH.out.fB;obtain⟨rA,rD,rE,rF,rG,rH⟩:=fH.out.kJ;have zz:=fH.out.lt;have G1:=J (dI (b:=w.heap.size+1+1) j6.out (by omega) (L O 0) (D o1 n1 c1) (D o2 n2 c2) (D o3 n3 c3) (D ea en ec) (D oa mW oc));have G3:=J (dM fH.out (L O 0) (D o1 n1 c1) (D o2 n2 c2) (D o3 n3 c3) (D ea en ec) (D oa mW oc));have Ga:=J (show dN _ _ _ _ from (dL wf (w.heap.size+1+1) (L O 0) (D o1 n1 c1) (D o2 n2 c2) (D o3 n3 c3) (D ea en ec) (D oa mW oc) w.heap.size (by omega)).trans kg.out);have Gb:=J (show dN _ _ _ _ from (dL wf (w.heap.size+1+1) (L O 0) (D o1 n1 c1) (D o2 n2 c2) (D o3 n3 c3) (D ea en ec) (D oa mW oc) (w.heap.size+1) (by omega)).trans ko.out);have GN:=J (BN.out.keep (s1:=(o1,n1,c1)) (s2:=(o2,n2,c2)) (s3:=(o3,n3,c3)) (s4:=(o4,n4,c4)) (s5:=(o5,n5,c5)) fH.out (fZ wf (w.heap.size+1+1) (L O 0) (D o1 n1 c1) (D o2 n2 c2) (D o3 n3 c3) (D ea en ec) (D oa mW oc)));clear BN j6 kg ko fH;go_upto_region 9 with fail;clear zz k0 k1 k2 k3 k4 k5 rA rD rE rF rG rH;unfold gY at G1 G3 Ga Gb GN;generalize ((((((wf.setCell ⟨w.heap.size+1+1,0,K⟩ (L O 0)).setCell ⟨w.heap.size+1+1,1,K⟩ (D o1 n1 c1)).setCell ⟨w.heap.size+1+1,2,K⟩ (D o2 n2 c2)).setCell ⟨w.heap.size+1+1,3,K⟩ (D o3 n3 c3)).setCell ⟨w.heap.size+1+1,4,K⟩ (D ea en ec)).setCell ⟨w.heap.size+1+1,5,K⟩ (D oa mW oc))=wg at *;have MX:=J (nZ.out.1.trans ME.out);have NX:=J (show 1<=((kX b (i1,i2) pp).1).near.length from by rw [nZ.out.2.1]; exact NL.out);have SX:=J (show Wm ((kX b (i1,i2) pp).1) from ⟨⟨fun x hx=>by rcases nZ.out.2.2 x hx with h | h; exact SN.out.1.1 x h; rw [h]; exact TB.out,Zl SN.out.1.2 _ _ IB.out⟩,Go.Proofs.YtkcfgbddlpomgaaGreat.Sb.Mi KK.out.ok SN.out.2.1 _ _ RP.out,by rw [nZ.out.2.1]; exact SN.out.2.2⟩);go_wp2_with fail
      go_roundw
      case rel=>exact⟨i+1,(kX b (i1,i2) pp).1,o1,n1,c1,o2,n2,c2,o3,n3,c3,ea,en,ec,oa,mW,oc,hc,h12,by go_num,G1.out,Ga.out,Gb.out,G3.out,GN.out,JO.out,MX.out,NX.out,SX.out⟩
      case measure=>simp [intOf]; omega
     ·go_wp2_with fail;refine CU.out.mono ?_;rintro e5 wf ⟨⟨⟨ea,en,ec⟩,⟨oa,mW,oc⟩,_,rfl,hbr,_⟩,hb⟩;clear CS CA CB CU;clear x0 x1 x2 x3 x4 x5 F9 y_1 z0 z1 q0 q1 q2 q3 q4 q5 q6;have nZ:=J (Rf (tt,0) b (i1,i2));have JO:=J (KK.out.ad1 (i1,i2));have BN:=J (show vY wf (iZ b (i1,i2)).1 (o1,n1,c1) (o2,n2,c2) (o3,n3,c3) (ea,en,ec) (oa,mW,oc) from ⟨hbr,by rw [nZ.out.2.1]; exact (kY.out.on hb).no⟩);clear hbr;clear kY rX vJ vK qR;have j6:=J (jX.out.trans (hb.mono jX.out.size));have kg:=J (ny.out.on hb);have ko:=J (nA.out.on hb);have fH:=J (jW.out.on hb);clear jX ny nA jW;clear hb;obtain⟨k0,k1,k2,k3,k4,k5⟩:=fH.out.fB;obtain⟨rA,rD,rE,rF,rG,rH⟩:=fH.out.kJ;have zz:=fH.out.lt;have G1:=J (dI (b:=w.heap.size+1+1) j6.out (by omega) (L O 0) (D o1 n1 c1) (D o2 n2 c2) (D o3 n3 c3) (D ea en ec) (D oa mW oc));have G3:=J (dM fH.out (L O 0) (D o1 n1 c1) (D o2 n2 c2) (D o3 n3 c3) (D ea en ec) (D oa mW oc));have Ga:=J (show dN _ _ _ _ from (dL wf (w.heap.size+1+1) (L O 0) (D o1 n1 c1) (D o2 n2 c2) (D o3 n3 c3) (D ea en ec) (D oa mW oc) w.heap.size (by omega)).trans kg.out);have Gb:=J (show dN _ _ _ _ from (dL wf (w.heap.size+1+1) (L O 0) (D o1 n1 c1) (D o2 n2 c2) (D o3 n3 c3) (D ea en ec) (D oa mW oc) (w.heap.size+1) (by omega)).trans ko.out);have GN:=J (BN.out.keep (s1:=(o1,n1,c1)) (s2:=(o2,n2,c2)) (s3:=(o3,n3,c3)) (s4:=(o4,n4,c4)) (s5:=(o5,n5,c5)) fH.out (fZ wf (w.heap.size+1+1) (L O 0) (D o1 n1 c1) (D o2 n2 c2) (D o3 n3 c3) (D ea en ec) (D oa mW oc)));clear BN j6 kg ko fH;go_upto_region 9 with fail;clear zz k0 k1 k2 k3 k4 k5 rA rD rE rF rG rH;unfold gY at G1 G3 Ga Gb GN;generalize ((((((wf.setCell ⟨w.heap.size+1+1,0,K⟩ (L O 0)).setCell ⟨w.heap.size+1+1,1,K⟩ (D o1 n1 c1)).setCell ⟨w.heap.size+1+1,2,K⟩ (D o2 n2 c2)).setCell ⟨w.heap.size+1+1,3,K⟩ (D o3 n3 c3)).setCell ⟨w.heap.size+1+1,4,K⟩ (D ea en ec)).setCell ⟨w.heap.size+1+1,5,K⟩ (D oa mW oc))=wg at *;have MX:=J (nZ.out.1.trans ME.out);have NX:=J (show 1<=((iZ b (i1,i2)).1).near.length from by rw [nZ.out.2.1]; exact NL.out);have SX:=J (show Wm ((iZ b (i1,i2)).1) from ⟨⟨fun x hx=>by rcases nZ.out.2.2 x hx with h | h; exact SN.out.1.1 x h; rw [h]; exact TB.out,Rc SN.out.1.2 _⟩,Go.Proofs.YtkcfgbddlpomgaaGreat.Sb.Gs SN.out.2.1 _,by rw [nZ.out.2.1]; exact SN.out.2.2⟩);go_wp2_with fail
      go_roundw
      case rel=>exact⟨i+1,(iZ b (i1,i2)).1,o1,n1,c1,o2,n2,c2,o3,n3,c3,ea,en,ec,oa,mW,oc,hc,h12,by go_num,G1.out,Ga.out,Gb.out,G3.out,GN.out,JO.out,MX.out,NX.out,SX.out⟩
      case measure=>simp [intOf]; omega
    ·have hx:n<=i\/(i<n/\12<=i):=by omega
     rcases hx with hx|⟨hx,hy⟩
     all_goals
      first | (have q1:¬ ((i:Int)<(n:Int)):=(by omega)) | (have q1:(i:Int)<(n:Int):=(by omega); have q2:¬ ((i:Int)<12):=(by omega))
      obtain⟨x0,x1⟩:=Oz.out.cs2;obtain⟨k0,k1,k2,k3,k4,k5⟩:=Wp.out.fB;obtain⟨r0,r1,r2,r3,r4,r5⟩:=Cb.out.fB;obtain⟨DI,DJ,DK,DL,DN,DT⟩:=Cb.out.kJ;have zz:=Cb.out.lt;have GG:=J (dM Cb.out (L O 0) (D o1 n1 c1) (D o2 n2 c2) (D o3 n3 c3) (D o4 n4 c4) (D o5 n5 c5));have BL:=J (dI (b:=w.heap.size+1) iw.out (by omega) (L O 0) (D o1 n1 c1) (D o2 n2 c2) (D o3 n3 c3) (D o4 n4 c4) (D o5 n5 c5));have GN:=J (Wq.out.keep (s1:=(K,0,0)) (s2:=(K,0,0)) (s3:=(K,0,0)) (s4:=(K,0,0)) (s5:=(K,0,0)) Cb.out (fZ wr (w.heap.size+1) (L O 0) (D o1 n1 c1) (D o2 n2 c2) (D o3 n3 c3) (D o4 n4 c4) (D o5 n5 c5)));have K12:KI 12 b:=⟨KK.out.ok,KK.out.pa,KK.out.pe,KK.out.po,KK.out.ln,V KK.out.ls Zo,V KK.out.la Zo,V KK.out.lo Zo,V KK.out.le (Nat.mul_le_mul_right 12 Zo)⟩;have KH:=J K12;clear K12;go_wp2_with fail;obtain⟨v0,v1,v2,v3,v4,v5⟩:=GG.out.fB;refine bodyPost_ret (v:=.agg #[L O 0,D o1 n1 c1,D o2 n2 c2,D o3 n3 c3,D o4 n4 c4,D o5 n5 c5]) (by simp [results,Tryz.results7,go_sem,v0,v1,v2,v3,v4,v5]) rfl ?_;refine⟨⟨b,o1,n1,c1,o2,n2,c2,o3,n3,c3,o4,n4,c4,o5,n5,c5,by rw [ME.out],GN.out,KH.out,NL.out,SN.out⟩,BL.out⟩
theorem jI {p:List C5} (h:dW p):p.length<=5:=by
 obtain⟨a,na,rfl⟩:=h;rw [List.length_map];exact na.five
theorem KI.few {b:Br} (h:KI 12 b):Kw b:=⟨V h.ln (by decide),V h.la (by decide),V h.ls (by decide),V h.le (by decide),V h.lo (by decide)⟩
theorem KI.uY {b:Br} (h:KI 12 b):wL b:=⟨fun a q=>V (jI (h.pa a q)) (by decide),fun a q=>V (jI (h.pe a q)) (by decide),fun a q=>V (jI (h.po a q)) (by decide)⟩
abbrev z5:C5:=(⟨#[]⟩,0,0,0,⟨#[]⟩)
abbrev c0 (b:Br) (z:Int):Br:={ b with near:=b.near++[z] }
abbrev c1 (b:Br):Br:={ b with dQ:=b.dQ++[⟨(99,0),[],-1⟩] }
abbrev c2 (b:Br):Br:={ b with ent:=b.ent++[⟨(98,0),(0,0),[],-1,aN⟩] }
abbrev c3 (b:Br):Br:={ b with own:=b.own++[⟨(-1,0),[]⟩,⟨(-1,0),[]⟩] }
abbrev c4 (b:Br):Br:={ b with seen:=b.seen++[(97,0),(97,0)] }
abbrev c5 (b:Br):Br:={ b with own:=[⟨(-5,0),[z5]⟩]++b.own }
theorem Ww {W:World} {b:Nat} {c:iH} (h:dN W b (iR c).toArray 68):kM W (D (Y ⟨b,0,K⟩) 1 1) [c] :=
 Or.inr ⟨⟨b,0,K⟩,1,rfl,by simp,by decide,wo h (by simp [EN])⟩
def Cc (B:Nat) (l:List iH) (k:Nat) (c:iH) (vv:Value) (W:World) (e:Ending) (w':World):Prop:=∃ v',e=aH v'/\iU w' B v' (l.take k++c::l.drop k)/\Below B W w'/\(∀ j,j<W.heap.size->Y j≠vv.ownBlock->w'.heap[j]?=W.heap[j]?)
theorem JQ (B:Nat) (v:Value) (l:List iH) (c:iH) (b:Nat) (W:World) (ho:iU W B v l) (hx:dN W b (iR c).toArray 68) (hl:l.length<=900) (hB:B<=W.heap.size) :
  Calls X 51 #[v,L O (l.length:Nat),D (Y ⟨b,0,K⟩) 1 1] W (Cc B l l.length c v W):=by
 obtain⟨v',w',hr,ho2,hg⟩:=gG lF B ho (Ww hx) (by omega) (by simp) hB 30;have hr:(aJ #[30,30] 30 #[v,D (Y ⟨b,0,K⟩) 1 1]).run X W=.ok v' w':=hr;have Q:=J (show Cc B l l.length c v W (aH v') w' from ⟨v',rfl,by rw [List.take_of_length_le (U _),List.drop_of_length_le (U _)]; exact ho2,(Below.refl B W).grown hg hB (fun j hj=>(ho.lt j hj).1),fun j hj hne=>hg.block j hj hne⟩);obtain⟨sx,hs,_⟩:=qH lF (Row.dH ho) l.length (U _);have hs:∀ w,(ah 30 v (Y (L O l.length)) K K).run X w=.ok sx w:=hs;obtain⟨ao,ac,rfl⟩:=(Row.dH ho).len;clear ho ho2 hg;generalize hn:l.length=n at *;clear hn;go_enter aR,aO;go_wp2_with (first | (at_builtin; refine wpList_append_run rfl _ _ 30 rfl rfl rfl hr ?_) | fail);go_ret;exact Q.out
theorem Wx (w:World) (g b k la lb cb:Nat) (cur cs:Array Value) (hb:dN w b cs 68) (hg:dN w g cur 68) (hne:b≠g) (h0:0<cur.size):(callFunc 88 #[D (Y ⟨b,0,K⟩) la 1,D (Y ⟨g,k,K⟩) lb cb]).run X w=.ok (.value (.bool aN)) w:=by
 rw [run_callFunc_extern Tryz.func88 (by kernel_rfl) (by kernel_rfl) (by kernel_rfl) (e:=Extern.SlicesOverlaps.overlaps #[30,30] #[4]) (by kernel_rfl),
  Lib.run_overlaps_apart w 30 4 68 Tryz.underlying30 7 Tryz.sizeOf68 ⟨b,0,K⟩ ⟨g,k,K⟩ la 1 lb cb hne 68 68 cs.size cur.size hb.shape hg.shape (by omega) (hb.fr 0) (hb.fr _)]
 rfl
theorem Db (B g n cap:Nat) (cur:Array Value) (l:List iH) (k:Nat) (c:iH) (b:Nat) (W:World) (hn:n=l.length) (hBg:B<=g) (hg:dN W g cur 68) (hcm:cap<=maxLen) (hsz:cur.size=cap * 7) (ht:cur.toList.take (n * 7)=flat EN l) (hx:dN W b (iR c).toArray 68) (hne:b≠g) (hk:k<n) (hroom:n+1<=cap) (hl:n<=900) :
  Calls X 51 #[D (Y ⟨g,0,K⟩) n cap,L O k,D (Y ⟨b,0,K⟩) 1 1] W (Cc B l k c (D (Y ⟨g,0,K⟩) n cap) W):=by
 obtain⟨R1,R2,r1,r2,ow⟩:=xM (E:=EN) (l:=l) (k:=k) (cap:=cap) (cur:=cur) (cs:=(iR c).toArray) (c:=c) lF (by omega) (by omega) hsz (by rw [<- hn]; exact ht) g b hne;have hov:=fun lb cb=>Wx W g b ((k+1) * 7) 1 lb cb cur (iR c).toArray hx hg hne (by omega);have s0:=jF (E:=EN) lF g k n cap (by omega) (by omega);have s1:=nQ (E:=EN) lF ⟨g,0,K⟩ (n+1) n cap (by omega);have s2:=jF (E:=EN) lF g (k+1) (n+1) cap (by omega) (by omega);have s3:=jF (E:=EN) lF g k (n+1) cap (by omega) (by omega);have q1:=r1 W.drew 3 (n+1-(k+1)) (cap-(k+1)) (n+1-k) (cap-k) hg (by omega);have q2:=r2 (W.drew.setRow g R1) 3 (n+1-k) (cap-k) (dN.set (show dN W.drew g cur 68 from hg) R1) (dN.other (show dN W.drew b _ 68 from hx) hne R1) rfl (by omega);have Q:=J (show Cc B l k c (D (Y ⟨g,0,K⟩) n cap) W (aH (D (Y ⟨g,0,K⟩) (n+1) cap)) ((W.drew.setRow g R1).setRow g R2) from ⟨_,rfl,by rw [hn]; exact ow _ B hBg hcm (dN.set (dN.set (show dN W.drew g cur 68 from hg) R1) R2),below_setRow (below_setRow (Below.refl B W).drew hBg _) hBg _,fun j hj hne=>(setRow_other _ g j _ (fun e=>hne (by rw [e]; rfl))).trans (setRow_other _ g j _ (fun e=>hne (by rw [e]; rfl)))⟩);clear r1 r2 ow hg ht hx hsz hBg hcm;change ∀ w,(ah 30 (D (Y ⟨g,0,K⟩) n cap) (Y (L O k)) K K).run X w=.ok (D (Y ⟨g,k * 7,K⟩) (n-k) (cap-k)) w at s0;change ∀ w,(ah 30 (D (Y ⟨g,0,K⟩) n cap) K (Y (L O ((n:Int)+1))) K).run X w=.ok (D (Y ⟨g,0,K⟩) (n+1) cap) w at s1;change ∀ w,(ah 30 (D (Y ⟨g,0,K⟩) (n+1) cap) (Y (L O ((k:Int)+1))) K K).run X w=.ok (D (Y ⟨g,(k+1) * 7,K⟩) (n+1-(k+1)) (cap-(k+1))) w at s2;change ∀ w,(ah 30 (D (Y ⟨g,0,K⟩) (n+1) cap) (Y (L O k)) K K).run X w=.ok (D (Y ⟨g,k * 7,K⟩) (n+1-k) (cap-k)) w at s3;have e1:((k:Int) == (n:Int))=aN:=by rw [beq_eq_false_iff_ne]; omega
 have e2:decide ((cap:Int)<(n:Int)+1)=aN:=by simp; omega
 change (aG #[30,30] 3 #[D (Y ⟨g,(k+1) * 7,K⟩) (n+1-(k+1)) (cap-(k+1)),D (Y ⟨g,k * 7,K⟩) (n+1-k) (cap-k)]).run X W.drew=.ok (L O ((l.length-k:Nat):Int)) (W.drew.setRow g R1) at q1;change (aG #[30,30] 3 #[D (Y ⟨g,k * 7,K⟩) (n+1-k) (cap-k),D (Y ⟨b,0,K⟩) 1 1]).run X (W.drew.setRow g R1)=.ok (L O 1) ((W.drew.setRow g R1).setRow g R2) at q2;clear hn;go_enter aR,aO;go_wp2_with (first | (simp only [hov]) | fail);clear hov s0 s1 s2 s3;have hw1:IntKind.i64.wrap ((k:Int)+1)=(k:Int)+1:=by rw [aP]; omega
 have hb1:(0:Int)<=(k:Int)+1:=by omega
 have hb0:(k:Int)+1<=(n:Int)+1:=by omega
 have htn:((k:Int)+1).toNat=k+1:=by omega
 have hb2:¬ (cap=k+1):=by omega
 have hb3:(k:Int)<=(n:Int)+1:=by omega
 have hb4:¬ (cap=k):=by omega
 have h81:n+1-(k+1)=n-k:=by omega
 rw [h81] at q1;clear h81
 go_region_law (refine kF rfl (.tmp 73) (.tmp 76) 30 rfl (v:=D (Y ⟨g,(k+1) * 7,K⟩) (n-k) (cap-(k+1))) (xv:=D (Y ⟨g,k * 7,K⟩) (n+1-k) (cap-k)) (by simp [Act.eval,Act.put]) (by simp [Act.eval,Act.put]) q1 ?_)
 all_goals simp only [Exit.then]
 all_goals apply_assumption
 clear q1 hw1 hb1 hb0 htn hb2 hb3 hb4;have s3:=jF (E:=EN) lF g k (n+1) cap (by omega) (by omega);change ∀ w,(ah 30 (D (Y ⟨g,0,K⟩) (n+1) cap) (Y (L O k)) K K).run X w=.ok (D (Y ⟨g,k * 7,K⟩) (n+1-k) (cap-k)) w at s3;go_wp2_with (first | (at_builtin; refine wpList_copy_run rfl _ _ 30 rfl rfl rfl q2 ?_) | fail);go_ret;exact Q.out
theorem Gu (B g n cap:Nat) (cur:Array Value) (l:List iH) (k:Nat) (c:iH) (b:Nat) (W:World) (hn:n=l.length) (hg:dN W g cur 68) (hcm:cap<=maxLen) (hnc:n<=cap) (ht:cur.toList.take (n * 7)=flat EN l) (hx:dN W b (iR c).toArray 68) (hk:k<n) (hroom:cap<n+1) (hl:n<=900) (hB:B<=W.heap.size) :
  Calls X 51 #[D (Y ⟨g,0,K⟩) n cap,L O k,D (Y ⟨b,0,K⟩) 1 1] W (Cc B l k c (D (Y ⟨g,0,K⟩) n cap) W):=by
 have hgw:=hg.lt;have hbw:=hx.lt;obtain⟨G,R1,R2,R3,hG1,hG2,r1,r2,r3,ow⟩:=zK (E:=EN) (l:=l) (k:=k) (cap:=cap) (cur:=cur) (cs:=(iR c).toArray) (c:=c) lF 3 Tryz.underlying3 (by omega) (by omega) (by omega) (by omega) (by rw [<- hn]; exact ht) W g b hg hbw;unfold maxLen at hcm hG2;have s0:=jF (E:=EN) lF g k n cap (by omega) (by omega);have s1:=nQ (E:=EN) lF ⟨g,0,K⟩ k n cap (by omega);have s2:=jF (E:=EN) lF W.heap.size k (n+1) G (by omega) (by omega);have s3:=jF (E:=EN) lF W.heap.size (k+1) (n+1) G (by omega) (by omega);have a1:=r1 30;have n1:=dO W.drew R1 68;have bl:W.drew.heap.size=W.heap.size:=rfl;rw [bl] at n1;have g1:dN (W.drew.alloc (aj R1 68)) g cur 68:=dN.more (show dN W.drew g cur 68 from hg) _;have x1:dN (W.drew.alloc (aj R1 68)) b (iR c).toArray 68:=dN.more (show dN W.drew b _ 68 from hx) _;have q2:=r2 (W.drew.alloc (aj R1 68)) 3 (n+1-k) (G-k) n1 x1 rfl (by omega);have q3:=r3 ((W.drew.alloc (aj R1 68)).setRow W.heap.size R2).drew 3 (n+1-(k+1)) (G-(k+1)) (n-k) (cap-k) (dN.set n1 R2) (dN.other g1 (by omega) R2) (by omega);have Q:=J (show Cc B l k c (D (Y ⟨g,0,K⟩) n cap) W (aH (D (Y ⟨W.heap.size,0,K⟩) (n+1) G)) (((W.drew.alloc (aj R1 68)).setRow W.heap.size R2).drew.setRow W.heap.size R3) from ⟨_,rfl,by rw [hn]; exact ow _ B hB (dN.set (dN.set n1 R2) R3),below_setRow (below_setRow ((Below.refl B W).drew.alloc hB _) hB _).drew hB _,fun j hj _=>(setRow_other _ W.heap.size j _ (by omega)).trans ((setRow_other _ W.heap.size j _ (by omega)).trans (Array.getElem?_push_lt hj |>.trans (Array.getElem?_eq_getElem hj).symm))⟩);have l1:l.length+1=n+1:=by rw [hn]
 rw [l1,<- hn] at a1;clear r1 r2 r3 ow hg ht hx g1 x1 n1 bl l1;change ∀ w,(ah 30 (D (Y ⟨g,0,K⟩) n cap) (Y (L O k)) K K).run X w=.ok (D (Y ⟨g,k * 7,K⟩) (n-k) (cap-k)) w at s0;change ∀ w,(ah 30 (D (Y ⟨g,0,K⟩) n cap) K (Y (L O k)) K).run X w=.ok (D (Y ⟨g,0,K⟩) k cap) w at s1;change ∀ w,(ah 30 (D (Y ⟨W.heap.size,0,K⟩) (n+1) G) (Y (L O k)) K K).run X w=.ok (D (Y ⟨W.heap.size,k * 7,K⟩) (n+1-k) (G-k)) w at s2;change ∀ w,(ah 30 (D (Y ⟨W.heap.size,0,K⟩) (n+1) G) (Y (L O ((k:Int)+1))) K K).run X w=.ok (D (Y ⟨W.heap.size,(k+1) * 7,K⟩) (n+1-(k+1)) (G-(k+1))) w at s3;change (aJ #[30,3] 30 #[D (Y ⟨g,0,K⟩) k cap,L O ((n:Int)+1-k)]).run X W=.ok (D (Y ⟨W.heap.size,0,K⟩) (n+1) G) (W.drew.alloc (aj R1 68)) at a1;change (aG #[30,30] 3 #[D (Y ⟨W.heap.size,k * 7,K⟩) (n+1-k) (G-k),D (Y ⟨b,0,K⟩) 1 1]).run X (W.drew.alloc (aj R1 68))=.ok (L O 1) ((W.drew.alloc (aj R1 68)).setRow W.heap.size R2) at q2;change (aG #[30,30] 3 #[D (Y ⟨W.heap.size,(k+1) * 7,K⟩) (n+1-(k+1)) (G-(k+1)),D (Y ⟨g,k * 7,K⟩) (n-k) (cap-k)]).run X ((W.drew.alloc (aj R1 68)).setRow W.heap.size R2).drew=.ok (L O ((l.length-k:Nat):Int)) (((W.drew.alloc (aj R1 68)).setRow W.heap.size R2).drew.setRow W.heap.size R3) at q3;have e1:((k:Int) == (n:Int))=aN:=by rw [beq_eq_false_iff_ne]; omega
 have e2:decide ((cap:Int)<(n:Int)+1)=aI:=by simp; omega
 have hGn:n+1<=G:=by omega
 clear hn;generalize W.heap.size=N at *;generalize W.drew.alloc (aj R1 68)=W1 at *;generalize W1.setRow N R2=W2 at *;go_enter aR,aO;go_wp2_with (first | (at_builtin; refine lU rfl _ _ 30 3 rfl rfl rfl a1 ?_) | (at_builtin; refine wpList_copy_run rfl _ _ 30 rfl rfl rfl q2 ?_) | fail);clear a1 q2 s0 s1 s2 s3;have hw1:IntKind.i64.wrap ((k:Int)+1)=(k:Int)+1:=by rw [aP]; omega
 have hb1:(0:Int)<=(k:Int)+1:=by omega
 have hb0:(k:Int)+1<=(n:Int)+1:=by omega
 have htn:((k:Int)+1).toNat=k+1:=by omega
 have hb2:¬ (G=k+1):=by omega
 have hb3:(k:Int)<=(n:Int):=by omega
 have hb4:¬ (cap=k):=by omega
 have h81:n+1-(k+1)=n-k:=by omega
 rw [h81] at q3;clear h81
 go_region_law (refine kF rfl (.tmp 50) (.tmp 53) 30 rfl (v:=D (Y ⟨N,(k+1) * 7,K⟩) (n-k) (G-(k+1))) (xv:=D (Y ⟨g,k * 7,K⟩) (n-k) (cap-k)) (by simp [Act.eval,Act.put]) (by simp [Act.eval,Act.put]) q3 ?_)
 all_goals simp only [Exit.then]
 all_goals apply_assumption
 go_wp2;go_ret;exact Q.out
theorem zf (B:Nat) (v:Value) (l:List iH) (k:Nat) (c:iH) (b:Nat) (W:World) (ho:iU W B v l) (hx:dN W b (iR c).toArray 68) (hne:v.ownBlock≠Y b) (hk:k<=l.length) (hl:l.length<=900) (hB:B<=W.heap.size) :
  Calls X 51 #[v,L O k,D (Y ⟨b,0,K⟩) 1 1] W (Cc B l k c v W):=by
 rcases aS k l.length with h|h
 ·rcases gQ ho with⟨_,h2⟩|⟨g,cap,cur,rfl,h1,h2,h3,h4,h5,h6⟩
  ·rw [h2] at h; simp at h
  ·rcases aS cap (l.length+1) with h7|h7
   ·exact Gu B g _ cap cur l k c b W rfl h2 h4 h3 h6 hx h h7 hl hB
   ·exact Db B g _ cap cur l k c b W rfl h1 h2 h4 h5 h6 hx (fun e=>hne (by simp [Value.ownBlock,e])) h h7 hl
 ·obtain rfl:k=l.length:=by omega
  exact JQ B v l c b W ho hx hl hB
end Av
namespace Ca
open Go.RowKit Rw Bk Go.Maps Go.ChangeMaps
end Ca
end Go.Proofs.YtkcfgbddlpomgaaGreat
