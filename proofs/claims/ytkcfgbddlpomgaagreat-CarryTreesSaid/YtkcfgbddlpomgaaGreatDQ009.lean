/-
  The two loops of Lea. Conditions as told.
-/
import Derived.Test.YtkcfgbddlpomgaaGreatDQ007
import Derived.Test.YtkcfgbddlpomgaaGreatDQ008
set_option maxRecDepth 100000
set_option maxHeartbeats 64000000
open _root_.Bool renaming true->aj,false->ay
open _root_.Go renaming cell_regrown->X,World->Y,Value->Z,below_regrown->ah,redrawn->ak,Act->aA
open Go.Lib renaming hid->O
open Go.Region renaming binds->J
open _root_.Option renaming some->U,none->au
namespace Go.Proofs.YtkcfgbddlpomgaaGreat
namespace Bk
open Go.RowKit Go.Sort Rw YtkcfgbddlpomgaaGreat.Nm Pr
theorem nT (l:List Id) (x:Id) (k:Nat) (hall:∀ (j:Nat) (y:Id),j<k->l[j]?=U y->eu y x=aj) (hend:k=l.length\/∃ y,l[k]?=U y/\eu y x=ay):fH l x=k:=by
 unfold fH
 induction l generalizing k with
 | nil =>
  rcases hend with h|⟨y,h,_⟩
  ·rw [h]; rfl
  ·simp at h
 | cons a l ih =>
  cases k with
  | zero =>
   rcases hend with h|⟨y,h,h2⟩
   ·simp at h
   ·obtain rfl:a=y:=by simpa using h
    rw [List.takeWhile_cons,h2]
    rfl
  | succ k =>
   have h0:=hall 0 a (by omega) rfl;rw [List.takeWhile_cons,h0];simp only [if_true,List.length_cons];rw [ih k (fun j y hj hy=>hall (j+1) y (by omega) (by simpa using hy)) (by
    rcases hend with h|⟨y,h,h2⟩
    ·exact Or.inl (by simpa using h)
    ·exact Or.inr ⟨y,by simpa using h,h2⟩)]
noncomputable def Wo:Code:=((Tryz.f60.body.bind (iY 0)).getD .skip)
theorem Qm (Q:Exit->aA->Y->Prop) (W:Y) (b2 b3:Nat) (me c d:Int) (y1 y2 y4 y5 p3 q3:Z) (so:Option Addr) (n sc:Nat) (l:List eO) (u0 u1 u4 u5 u7 u8 u9 u10 u11 u12 u13 u14 u15 u16 u17 u18 u19 u20 u21 u22 u23 u24 u25 u26 u27 u28 u29 u30 u31 u32 u33 u34 u35 u36 u37 u38 u39 u40 u41 u42 u43 u44 u45 u46 u47 u48 u49 u50 u51 u52 u53 u54 u55 u56 u57 u58 u59 u60 u61 u62 u63 u64 u65 u66 u67 u68 u69 u70 u71 u72 u73 u74 u75 u76 u77 u78:Z)
  (h2:dJ W b2 #[.int .i64 me,y1,y2,.slice so n sc,y4,y5] 33) (h3:dJ W b3 #[.int .i64 c,.int .i64 d,p3,q3] 53) (hs:vV W (.slice so n sc) l) (hn:n=l.length) (hm:n<=1000000)
  (hQ:∀ (wr:Y) (v12 v13 v14 v15 v16 v17 v18 v19 v20 v21 v22 v23 v24 v25 v26 v27 v28:Z),Below W.heap.size W wr->Q .normal ⟨(u0::u1::.pointer (U ⟨b2,0,au⟩)::.pointer (U ⟨b3,0,au⟩)::u4::u5::.int .i64 (fH l (c,d):Nat)::u7::u8::u9::u10::u11::v12::v13::v14::v15::v16::v17::v18::v19::v20::v21::v22::v23::v24::v25::v26::v27::v28::u29::u30::u31::u32::u33::u34::u35::u36::u37::u38::u39::u40::u41::u42::u43::u44::u45::u46::u47::u48::u49::u50::u51::u52::u53::u54::u55::u56::u57::u58::u59::u60::u61::u62::u63::u64::u65::u66::u67::u68::u69::u70::u71::u72::u73::u74::u75::u76::u77::u78::[]).toArray,[]⟩ wr) :
  Code.wp Tryz.prog Wo Q ⟨(u0::u1::.pointer (U ⟨b2,0,au⟩)::.pointer (U ⟨b3,0,au⟩)::u4::u5::.int .i64 0::u7::u8::u9::u10::u11::u12::u13::u14::u15::u16::u17::u18::u19::u20::u21::u22::u23::u24::u25::u26::u27::u28::u29::u30::u31::u32::u33::u34::u35::u36::u37::u38::u39::u40::u41::u42::u43::u44::u45::u46::u47::u48::u49::u50::u51::u52::u53::u54::u55::u56::u57::u58::u59::u60::u61::u62::u63::u64::u65::u66::u67::u68::u69::u70::u71::u72::u73::u74::u75::u76::u77::u78::[]).toArray,[]⟩ W:=by
 have HQ:=O hQ;have H2:=O h2;have H3:=O h3;have HS:=O hs;have HN:=O hn;clear hQ h2 h3 hs hn
 conv=>arg 2; whnf
 go_wp2
 go_loopw [6] (fun i wr=>∃ k:Nat,k<=n/\i=.int .i64 k/\Below W.heap.size W wr/\∀ (j:Nat) (y:Id),j<k->l[j]?=U y->eu y (c,d)=aj) (fun i _=>n-(intOf i).toNat)
 case atStart=>exact⟨0,Nat.zero_le _,rfl,Below.refl _ _,fun j y h=>by omega⟩
 case round =>
  obtain⟨k,hk,rfl,hbe,hall⟩:=hrel;have BE:=O hbe;have AL:=O hall;clear hbe hall;have q0:=X (show wr.cell? ⟨b2,3,au⟩=U (.slice so n sc) from (H2.out.on BE.out).cell 3);have r0:=X (show wr.cell? ⟨b3,0,au⟩=U (.int .i64 c) from (H3.out.on BE.out).cell 0);have r1:=X (show wr.cell? ⟨b3,1,au⟩=U (.int .i64 d) from (H3.out.on BE.out).cell 1);have hw3:IntKind.i64.wrap ((k:Int)+1)=(k:Int)+1:=IntWalk.i64_in _ (by omega);by_cases hlt:k<n
  ·obtain⟨y,hy⟩:∃ y,l[k]?=U y:=⟨_,List.getElem?_eq_getElem (by rw [<- HN.out]; exact hlt)⟩;obtain⟨p,ix,px⟩:=elJ HS.out rfl HN.out.symm hy;have xL:=px wr BE.out;obtain⟨y1,y2⟩:=y;simp only at xL;have p0:=X xL.1;have p1:=X xL.2;have xg:decide ((k:Int)<(n:Int))=aj:=decide_eq_true (by omega);have AQ:decide (k<n)=aj:=decide_eq_true hlt;obtain⟨r,hr⟩:∃ r,eu (y1,y2) (c,d)=r:=⟨_,rfl⟩;have LS:=O (fun d' os=>Calls.regrown_of (d:=d') (os:=os) ((rA (y1,y2) (c,d) (grow (ak wr d') os)).mono fun _ _ h=>⟨by rw [h.1,hr],h.2⟩));have HY:=O (show l[k]?=U (y1,y2) by exact hy);have HR:=O hr;clear px xL hy hr;cases r
   ·go_wp2_with fail;refine wp_region_quiet_below (by kernel_rfl) (by kernel_rfl) ?_
    repeat (go_big_quiet_step (first | (with_reducible exact LS.out _ _)))
    refine wpQuiet_nil ?_;intro _ hw';obtain⟨⟨dq,osq⟩,hw''⟩:=hw';subst hw'';have Z6:=ah wr dq osq;have HF:=O (fun v12 v13 v14 v15 v16 v17 v18 v19 v20 v21 v22 v23 v24 v25 v26 v27 v28=>HQ.out (grow (ak wr dq) osq) v12 v13 v14 v15 v16 v17 v18 v19 v20 v21 v22 v23 v24 v25 v26 v27 v28 (BE.out.trans (Z6.mono BE.out.size)));rw [nT l (c,d) k AL.out (Or.inr ⟨_,HY.out,HR.out⟩)] at HF;clear ix HQ q0 r0 r1 LS xg AQ p0 p1;go_wp2;exact HF.out _ _ _ _ _ _ _ _ _ _ _ _ _ _ _ _ _
   ·go_wp2_with fail;refine wp_region_quiet_below (by kernel_rfl) (by kernel_rfl) ?_
    repeat (go_big_quiet_step (first | (with_reducible exact LS.out _ _)))
    refine wpQuiet_nil ?_;intro _ hw';obtain⟨⟨dq,osq⟩,hw''⟩:=hw';subst hw'';have Z6:=O (ah wr dq osq);clear ix q0 r0 r1 LS xg AQ p0 p1;go_wp2
    go_roundw
    case rel=>exact⟨k+1,by omega,by go_num,BE.out.trans (Z6.out.mono BE.out.size),fun j y' hj h1=>by
     rcases Nat.lt_or_ge j k with h3|h3
     ·exact AL.out j y' h3 h1
     ·obtain rfl:j=k:=by omega
      have e1:=HY.out;rw [h1] at e1;rw [Option.some.inj e1];exact HR.out⟩
    case measure=>simp [intOf]; omega
  ·obtain rfl:k=n:=by omega
   have xg:decide ((k:Int)<(k:Int))=ay:=by simp
   have AQ:decide (k<k)=ay:=by simp
   go_wp2_with fail;refine wp_region_quiet_below (by kernel_rfl) (by kernel_rfl) ?_
   repeat (go_big_quiet_step (fail))
   refine wpQuiet_nil ?_;intro _ hw';obtain⟨⟨dq,osq⟩,hw''⟩:=hw';subst hw'';have Z6:=ah wr dq osq;have HF:=O (fun v12 v13 v14 v15 v16 v17 v18 v19 v20 v21 v22 v23 v24 v25 v26 v27 v28=>HQ.out (grow (ak wr dq) osq) v12 v13 v14 v15 v16 v17 v18 v19 v20 v21 v22 v23 v24 v25 v26 v27 v28 (BE.out.trans (Z6.mono BE.out.size)));rw [nT l (c,d) k AL.out (Or.inl (by simpa using HN.out))] at HF;clear HQ q0 r0 r1 xg AQ;go_wp2;exact HF.out _ _ _ _ _ _ _ _ _ _ _ _ _ _ _ _ _
end Bk
namespace Nm
def hor (l:List UInt8):Int:=l.foldl (fun h b=>h * 256+(b.toNat:Int)) 0
def qR (l:List UInt8):Int:=IntKind.i64.wrap (hor l)
end Nm
namespace Rg
open Go.RowKit
structure X7 (i N:Nat) (dst:Nat->Option Nat) (last:Nat->Nat) (V:Nat->Z->Y->Prop) (base:aA) (o:Oper) (a:aA) (w:Y):Prop where
 kp:∀ j u,(∀ k,k<N->dst k≠U j)->base.tmps[j]?=U u->a.eval (.tmp j)=u
 at_:∀ e∈o.after,J .any e=aj->(last e.on=i\/N<=last e.on)->∀ d,dst e.on=U d->V e.on (a.eval (.tmp d)) w
 st:∀ e∈o.after,J .any e=aj->(last e.on=i\/N<=last e.on)->∃ v,V e.on v w
theorem Cb (a:aA) (d:Option Nat) (v:Z) (j:Nat) (hj:d≠U j):(a.put d v).tmps[j]?=a.tmps[j]?:=by
 cases d with
 | none=>rfl
 | some d=>exact get_put _ _ _ _ (fun e=>hj (by rw [e]))
theorem Qn (a:aA) (d:Option Nat) (v:Z):(a.put d v).tmps.size=a.tmps.size:=by
 cases d with
 | none=>rfl
 | some d=>exact size_put _ _ _
theorem put_defers (a:aA) (d:Option Nat) (v:Z):(a.put d v).defers=a.defers:=by
 cases d <;> rfl
structure PhD (l:List Oper) (N:Nat) (dst:Nat->Option Nat) (last:Nat->Nat) (V:Nat->Z->Y->Prop) (F:(Nat->Prop)->Y->Prop) (base:aA) (L:Array Bool) (a:aA) (x:Y):Prop where
 cl:∀ i o,done L i->l[i]?=U o->∀ e∈o.after,J .any e=aj->done L e.on
 df:a.defers=base.defers
 sz:a.tmps.size=base.tmps.size
 kp:∀ j,(∀ i,i<N->dst i≠U j)->a.tmps[j]?=base.tmps[j]?
 fr:F (done L) x
 no:∀ i,N<=i->¬ done L i
 val:∃ vs:Nat->Z,∀ i,i<N->done L i->(∀ d,dst i=U d->a.tmps[d]?=U (vs i))/\(¬ done L (last i)->V i (vs i) x)
theorem xq {P:Program} {Q:Exit->aA->Y->Prop} {id:Nat} {base:aA} {w:Y} {l:List Oper} (N:Nat) (dst:Nat->Option Nat) (last:Nat->Nat) (V:Nat->Z->Y->Prop) (F:(Nat->Prop)->Y->Prop)
  (hm:P.follows .mixedOrders=aj) (hf:M9 l.toArray=aj) (hN:l.length=N) (hinj:∀ i j d,i<N->j<N->dst i=U d->dst j=U d->i=j) (hs:∀ i d,i<N->dst i=U d->d<base.tmps.size) (h0:F (fun _=>False) w.drew)
  (hop:∀ i o,i<N->l[i]?=U o->∀ a w' (D:Nat->Prop),¬ D i->(∀ j oj,D j->l[j]?=U oj->∀ e∈oj.after,J .any e=aj->D e.on)->(∀ e∈o.after,J .any e=aj->D e.on)->F D w'->X7 i N dst last V base o a w'->∀ K:aA->Y->Prop,(∀ v w'',V i v w''->F (fun j=>j=i\/D j) w''->(∀ j u,j<N->D j->¬ D (last j)->last j≠i->j≠i->V j u w'->V j u w'')->K (a.put (dst i) v) w'')->wpOp P l.toArray Q i K a w')
  (hend:∀ a w',a.defers=base.defers->a.tmps.size=base.tmps.size->(∀ j,(∀ i,i<N->dst i≠U j)->a.tmps[j]?=base.tmps[j]?)->(∃ vs:Nat->Z,∀ i,i<N->(∀ d,dst i=U d->a.tmps[d]?=U (vs i))/\(N<=last i->V i (vs i) w'))->(∃ D:Nat->Prop,(∀ i,i<N->D i)/\F D w')->Q .normal a w'):(Code.region id l.toArray aj).wp P Q base w:=by
 refine qz (fun L a x=>PhD l N dst last V F base L a x) hm hf ?_ ?_ ?_
 ·exact⟨fun i o h=>absurd h (gG _ _),rfl,rfl,fun _ _=>rfl,by rw [show done (Array.replicate l.length ay)=fun _=>False from funext fun i=>propext ⟨fun h=>gG _ _ h,False.elim⟩]; exact h0,fun i _=>gG _ _,fun _=>.bool aj,fun i _ h=>absurd h (gG _ _)⟩
 ·intro L a x i o hsz I ho hnd nO;have hi:i<l.length:=(List.getElem?_eq_some_iff.1 ho).1;have AJ:i<L.size:=by omega
  have hiM:i<N:=by omega
  obtain⟨vs,q1⟩:=I.val;have hon:∀ e∈o.after,J .any e=aj->e.on<N:=fun e he hb=>by
   have h7:=List.all_eq_true.1 hf i (List.mem_range.2 (by simpa using hi));have ho':(l.toArray)[i]?=U o:=by simpa using ho
   rw [ho'] at h7;have h8:=Array.all_eq_true'.1 h7 e he;rw [hb] at h8;have:e.on<i:=by simpa using h8
   omega
  have lv:∀ e∈o.after,J .any e=aj->(last e.on=i\/N<=last e.on)->V e.on (vs e.on) x:=fun e he hbd hl=>by
   refine (q1 e.on (hon e he hbd) (nO e he hbd)).2 ?_;rcases hl with hl|hl
   ·rw [hl]; exact hnd
   ·exact I.no _ hl
  have seen:X7 i N dst last V base o a x:=⟨fun j u hj hu=>dI (by rw [I.kp j hj]; exact hu),fun e he hbd hl d hd=>by
   rw [dI ((q1 e.on (hon e he hbd) (nO e he hbd)).1 d hd)];exact lv e he hbd hl,fun e he hbd hl=>⟨_,lv e he hbd hl⟩⟩
  refine hop i o hiM ho a x (done L) hnd I.cl nO I.fr seen _ fun v w'' hvw hfw hpr=>?_;refine⟨fun k q hk hq e he hb=>?_,by rw [put_defers]; exact I.df,by rw [Qn]; exact I.sz,fun j hj=>?_,by rw [show done (L.setIfInBounds i aj)=fun j=>j=i\/done L j from funext fun j=>propext (gU AJ j)]; exact hfw,fun k hk hd=>?_,fun k=>if k=i then v else vs k,fun k V7 hk=>?_⟩
  ·rw [gU AJ] at hk ⊢;rcases hk with rfl|hk
   ·rw [hq] at ho;cases ho;exact Or.inr (nO e he hb)
   ·exact Or.inr (I.cl k q hk hq e he hb)
  ·rw [Cb _ _ _ _ (hj i hiM)];exact I.kp j hj
  ·rcases (gU AJ k).1 hd with h9|h9
   ·omega
   ·exact I.no k hk h9
  ·by_cases e:k=i
   ·subst e;simp only [if_true];refine⟨fun d hd=>?_,fun _=>hvw⟩;have h9:d<a.tmps.size:=by rw [I.sz]; exact hs k d V7 hd
    rw [hd];simp [Act.put,h9]
   ·simp only [if_neg e];rcases (gU AJ k).1 hk with h9|h9
    ·exact absurd h9 e
    ·obtain⟨p1,p2⟩:=q1 k V7 h9;refine⟨fun d hd=>?_,fun hn=>?_⟩
     ·rw [Cb _ _ _ _ (fun h=>e (hinj k i d V7 hiM hd h))];exact p1 d hd
     ·have n1:last k≠i:=fun e3=>hn ((gU AJ _).2 (Or.inl e3));have n2:¬ done L (last k):=fun e3=>hn ((gU AJ _).2 (Or.inr e3));exact hpr k _ V7 h9 n2 n1 e (p2 n2)
 ·intro L a x I hd;obtain⟨vs,q1⟩:=I.val;exact hend a x I.df I.sz I.kp ⟨vs,fun k hk=>⟨(q1 k hk (hd k (by omega))).1,fun hl=>(q1 k hk (hd k (by omega))).2 (I.no _ hl)⟩⟩ ⟨done L,fun i hi=>hd i (by omega),I.fr⟩
end Rg
end Go.Proofs.YtkcfgbddlpomgaaGreat
