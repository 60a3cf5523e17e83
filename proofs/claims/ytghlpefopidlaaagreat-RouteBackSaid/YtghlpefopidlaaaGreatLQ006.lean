/-
  A region that draws . Conditions as told.
-/
import Derived.Test.YtghlpefopidlaaaGreatLQ004
import Derived.Test.YtghlpefopidlaaaGreatLQ005
set_option maxRecDepth 100000
set_option maxHeartbeats 64000000
open _root_.Go renaming World->Y,Value->aj,Act->aA
open Go.Region renaming binds->J
open Go.Value renaming string->X
open _root_.List renaming getElem?_eq_getElem->O,getD_eq_getElem?_getD->Z
open _root_.Nat renaming lt_or_ge->U,le_refl->au,mod_lt->ay
open _root_.Or renaming inr->ah,inl->ak
namespace Go.Proofs.YtghlpefopidlaaaGreat
namespace Rg
open Go.RowKit
theorem wpOp_mono {P:Program} {ops:Array Oper} {Q:Exit->aA->Y->Prop} {i:Nat} {K K':aA->Y->Prop} {a:aA} {w:Y} (h:∀ a w,K a w->K' a w) (hw:wpOp P ops Q i K a w):wpOp P ops Q i K' a w:=by
 unfold wpOp at hw ⊢;cases ho:ops[i]? with
 | none =>
  rw [ho] at hw;exact h _ _ hw
 | some o =>
  rw [ho] at hw;simp only at hw ⊢
  split at hw
  ·rename_i h1
   rw [if_pos h1];rcases hw with hw|hw
   ·exact ak (Oper.wp_mono h hw)
   ·exact ah hw
  ·rename_i h1
   rw [if_neg h1];exact h _ _ hw
def fZ (P:Program) (ops:Array Oper) (Q:Exit->aA->Y->Prop):Nat->Nat->aA->Y->Prop
 | 0,_,a,w=>Q .normal a w
 | n+1,k,a,w=>wpOp P ops Q k (fun a w=>fZ P ops Q n (k+1) a w) a w
structure adA (i M:Nat) (dst last:Nat->Nat) (V:Nat->aj->Y->Prop) (base:aA) (o:Oper) (a:aA) (w:Y):Prop where
 kp:∀ j u,(∀ k,k<M->dst k≠j)->base.tmps[j]?=some u->a.eval (.tmp j)=u
 at_:∀ e∈o.after,J .any e=true->(last e.on=i\/M<=last e.on)->V e.on (a.eval (.tmp (dst e.on))) w
 got:∀ e∈o.after,J .any e=true->a.tmps[dst e.on]?=some (a.eval (.tmp (dst e.on)))
structure PhL (l:List Oper) (M:Nat) (dst last:Nat->Nat) (V:Nat->aj->Y->Prop) (base:aA) (w:Y) (L:Array Bool) (a:aA) (x:Y):Prop where
 no:∀ i,M<=i->¬ done L i
 cl:∀ i o,done L i->l[i]?=some o->∀ e∈o.after,J .any e=true->done L e.on
 df:a.defers=base.defers
 sz:a.tmps.size=base.tmps.size
 kp:∀ j,(∀ i,i<M->dst i≠j)->a.tmps[j]?=base.tmps[j]?
 wM:Below w.heap.size w x
 val:∃ vs:Nat->aj,∀ i,i<M->done L i->a.tmps[dst i]?=some (vs i)/\(¬ done L (last i)->V i (vs i) x)
theorem gU {P:Program} {Q:Exit->aA->Y->Prop} {id:Nat} {base:aA} {w:Y} {l:List Oper} (N M:Nat) (dst last:Nat->Nat) (V:Nat->aj->Y->Prop)
  (hm:P.follows .mixedOrders=true) (hf:JO l.toArray=true) (hN:l.length=N) (hMN:M<=N) (hinj:∀ i j,i<M->j<M->dst i=dst j->i=j) (hs:∀ i,i<M->dst i<base.tmps.size)
  (hop:∀ i o,i<M->l[i]?=some o->∀ a w' (D:Nat->Prop),¬ D i->(∀ j oj,D j->l[j]?=some oj->∀ e∈oj.after,J .any e=true->D e.on)->(∀ e∈o.after,J .any e=true->D e.on)->Below w.heap.size w w'->adA i M dst last V base o a w'->∀ K:aA->Y->Prop,(∀ v w'',V i v w''->Below w.heap.size w' w''->(∀ j u,j<M->D j->¬ D (last j)->last j≠i->j≠i->V j u w'->V j u w'')->K (a.put (some (dst i)) v) w'')->wpOp P l.toArray Q i K a w')
  (hall:M<N->∀ D:Nat->Prop,(∀ j o,D j->l[j]?=some o->∀ e∈o.after,J .any e=true->D e.on)->(∀ o,l[M]?=some o->∀ e∈o.after,J .any e=true->D e.on)->∀ i,i<M->D i)
  (hnext:∀ k o,M<k->k<N->l[k]?=some o->∃ e∈o.after,J .any e=true/\e.on=k-1)
  (hseq:∀ a w',a.defers=base.defers->a.tmps.size=base.tmps.size->(∀ j,(∀ i,i<M->dst i≠j)->a.tmps[j]?=base.tmps[j]?)->(∃ vs:Nat->aj,∀ i,i<M->a.tmps[dst i]?=some (vs i)/\(M<=last i->V i (vs i) w'))->Below w.heap.size w w'->fZ P l.toArray Q (N-M) M a w'):(Code.region id l.toArray true).wp P Q base w:=by
 refine nU (fun L a x=>PhL l M dst last V base w L a x\/∃ s,1<=s/\M+s<=N/\(∀ i,i<N->(done L i↔i<M+s))/\fZ P l.toArray Q (N-M-s) (M+s) a x) hm hf ?_ ?_ ?_
 ·exact ak ⟨fun i _=>gF _ _,fun i o h=>absurd h (gF _ _),rfl,rfl,fun _ _=>rfl,(Below.refl _ _).drew,fun _=>.bool true,fun i _ h=>absurd h (gF _ _)⟩
 ·intro L a x i o hsz hI ho hnd mP;have hi:i<l.length:=(List.getElem?_eq_some_iff.1 ho).1;have yY:i<L.size:=by omega
  rcases hI with I|⟨s,h1,h2,h3,h4⟩
  ·rcases U i M with hiM|hiM
   ·obtain⟨vs,q1⟩:=I.val;have hon:∀ e∈o.after,J .any e=true->e.on<M:=fun e he hb=>by
     have h7:=List.all_eq_true.1 hf i (List.mem_range.2 (by simpa using hi));have ho':(l.toArray)[i]?=some o:=by simpa using ho
     rw [ho'] at h7;have h8:=Array.all_eq_true'.1 h7 e he;rw [hb] at h8;have:e.on<i:=by simpa using h8
     omega
    have seen:adA i M dst last V base o a x:=⟨fun j u hj hu=>dP (by rw [I.kp j hj]; exact hu),fun e he hbd hl=>by
     obtain⟨p1,p2⟩:=q1 e.on (hon e he hbd) (mP e he hbd);rw [dP p1];refine p2 ?_;rcases hl with hl|hl
     ·rw [hl]; exact hnd
     ·exact I.no _ hl,fun e he hbd=>by
     obtain⟨p1,p2⟩:=q1 e.on (hon e he hbd) (mP e he hbd);rw [dP p1];exact p1⟩
    refine hop i o hiM ho a x (done L) hnd I.cl mP I.wM seen _ fun v w'' hvw hbw hpr=>ak ?_;refine⟨fun k hk hd=>?_,fun k q hk hq e he hb=>?_,I.df,by rw [size_put]; exact I.sz,fun j hj=>?_,I.wM.trans hbw,fun k=>if k=i then v else vs k,fun k hkM hk=>?_⟩
    ·rcases (iw yY k).1 hd with h9|h9
     ·omega
     ·exact I.no k hk h9
    ·rw [iw yY] at hk ⊢;rcases hk with rfl|hk
     ·rw [hq] at ho;cases ho;exact ah (mP e he hb)
     ·exact ah (I.cl k q hk hq e he hb)
    ·rw [get_put _ _ _ _ (fun e=>hj i hiM e.symm)];exact I.kp j hj
    ·by_cases e:k=i
     ·subst e;have:dst k<a.tmps.size:=by rw [I.sz]; exact hs k hkM
      simp only [if_true];exact⟨by simp [Act.put,this],fun _=>hvw⟩
     ·simp only [if_neg e];rw [get_put _ _ _ _ (fun e2=>e (hinj k i hkM hiM e2))];rcases (iw yY k).1 hk with h9|h9
      ·exact absurd h9 e
      ·obtain⟨p1,p2⟩:=q1 k hkM h9;refine⟨p1,fun hn=>?_⟩;have n1:last k≠i:=fun e3=>hn ((iw yY _).2 (ak e3));have n2:¬ done L (last k):=fun e3=>hn ((iw yY _).2 (ah e3));exact hpr k _ hkM h9 n2 n1 e (p2 n2)
   ·have amD:i=M:=by
     rcases U M i with h9|h9
     ·obtain⟨e,he,hb,hon⟩:=hnext i o h9 (by omega) ho;have hd:=mP e he hb;rw [hon] at hd;exact absurd hd (I.no _ (by omega))
     ·omega
    subst amD;have hD:=hall (by omega) (done L) I.cl (fun o' ho' e he hb=>by
     rw [ho] at ho';cases ho';exact mP e he hb)
    obtain⟨vs,q1⟩:=I.val;have hq:=hseq a x I.df I.sz I.kp ⟨vs,fun k hk=>⟨(q1 k hk (hD k hk)).1,fun hl=>(q1 k hk (hD k hk)).2 (I.no _ hl)⟩⟩ I.wM;rw [show N-i=(N-i-1)+1 by omega] at hq;refine wpOp_mono (fun a' x' h=>ah ⟨1,au _,by omega,fun k hk=>?_,h⟩) hq;rw [iw yY];constructor
    ·rintro (rfl|h9)
     ·omega
     ·rcases U k i with h8|h8
      ·omega
      ·exact absurd h9 (I.no k h8)
    ·intro h9;by_cases e:k=i
     ·exact ak e
     ·exact ah (hD k (by omega))
  ·have hge:M+s<=i:=by
    rcases U i (M+s) with h9|h9
    ·exact absurd ((h3 i (by omega)).2 h9) hnd
    ·exact h9
   have hie:i=M+s:=by
    rcases U (M+s) i with h9|h9
    ·obtain⟨e,he,hb,hon⟩:=hnext i o (by omega) (by omega) ho;have hd:=mP e he hb;rw [hon] at hd;have:=(h3 (i-1) (by omega)).1 hd;omega
    ·omega
   subst hie;rw [show N-M-s=(N-M-(s+1))+1 by omega] at h4;refine wpOp_mono (fun a' x' h=>ah ⟨s+1,by omega,by omega,fun k hk=>?_,h⟩) h4;rw [iw yY];constructor
   ·rintro (rfl|h9)
    ·omega
    ·have:=(h3 k hk).1 h9;omega
   ·intro h9;by_cases e:k=M+s
    ·exact ak e
    ·exact ah ((h3 k hk).2 (by omega))
 ·intro L a x hI hd;rcases hI with I|⟨s,h1,h2,h3,h4⟩
  ·rcases U M N with h9|h9
   ·exact absurd (hd M (by omega)) (I.no M (au _))
   ·obtain⟨vs,q1⟩:=I.val;have hq:=hseq a x I.df I.sz I.kp ⟨vs,fun k hk=>⟨(q1 k hk (hd k (by omega))).1,fun hl=>(q1 k hk (hd k (by omega))).2 (I.no _ hl)⟩⟩ I.wM;rw [show N-M=0 by omega] at hq;exact hq
  ·have:=(h3 (N-1) (by omega)).1 (hd (N-1) (by omega));rw [show N-M-s=0 by omega] at h4;exact h4
end Rg
namespace At
open Go.RowKit Va
abbrev A4:=ByteArray×Bool×Int×ByteArray
abbrev av (x:A4):aj:=.agg #[X x.1,.bool x.2.1,.int .i64 x.2.2.1,X x.2.2.2]
def ahB (x:A4):List aj:=[X x.1,.bool x.2.1,.int .i64 x.2.2.1,X x.2.2.2]
end At
namespace Kp
open Go.RowKit Va In
def nm (i:Nat):ByteArray:=⟨#[UInt8.ofNat (97+i)]⟩
def xP:Array aj:=#[X ⟨#[97]⟩,X ⟨#[98]⟩,X ⟨#[99]⟩,X ⟨#[100]⟩,X ⟨#[101]⟩,X ⟨#[102]⟩,X ⟨#[103]⟩]
theorem ajz (i:Nat) (h:i<7):xP[i]?=some (X (nm i)):=by
 match i,h with
 | 0,_=>rfl
 | 1,_=>rfl
 | 2,_=>rfl
 | 3,_=>rfl
 | 4,_=>rfl
 | 5,_=>rfl
 | 6,_=>rfl
theorem Tv (w:Y):Calls Tryz.prog 52 #[] w fun e w'=>e=.returned (.slice (some ⟨w.heap.size,0,none⟩) 7 7)/\w'=w.alloc (.cells xP 9):=by
 go_enter Tryz.func52,Tryz.ntmps52;go_wp2;go_ret;exact⟨rfl,rfl⟩
def uT (zs:List Int) (i:Nat):Int:=if zs=[] then 0 else zs.getD (i % zs.length) 0
theorem Wp (nv:aj) (zs:List Int) (i:Nat) (w:Y) (hz:kQ w nv zs) (hl:zs.length<=maxLen) (hi:i<=100) :
  Calls Tryz.prog 54 #[nv,.int .i64 i] w fun e w'=>e=.returned (.int .i64 (uT zs i))/\w=w':=by
 obtain⟨ao,cap,rfl⟩:=hz.shape;unfold maxLen at hl;cases zs with
 | nil =>
  go_enter Tryz.func54,Tryz.ntmps54;go_wp2;go_ret;exact⟨rfl,rfl⟩
 | cons z r =>
  have hm:i % (z::r).length<(z::r).length:=ay _ (by simp);obtain⟨y,hy⟩:∃ y,(z::r)[i % (z::r).length]?=some y:=⟨_,O hm⟩;obtain⟨_,p,_,hix,hpc⟩:=hz.at_ _ y hy;have P:=Lib.hid (show uT (z::r) i=y by unfold uT; rw [if_neg (by simp),Z,hy]; rfl);have h0:((((z::r).length:Nat):Int) == 0)=false:=by simp; omega
  have hne:(((z::r).length:Nat):Int)≠0:=by simp; omega
  have ht:(i:Int) % ((z::r).length:Nat)=((i % (z::r).length:Nat):Int):=rfl;have ht2:(i:Int).tmod ((z::r).length:Nat)=((i % (z::r).length:Nat):Int):=by
   rw [Int.tmod_eq_emod_of_nonneg (by omega)]; rfl
  have hn0:0<(((z::r).length:Nat):Int):=by simp
  generalize (z::r).length=n at *;generalize i % n=m at *;clear hz hy hm;go_enter Tryz.func54,Tryz.ntmps54;go_wp2;go_ret;exact⟨Wi.I4 P.out.symm,rfl⟩
def odd (z:Int):Bool:=bits BinOp.and IntKind.i64 z 1 == 1
theorem Wq {W:Y} {nv:aj} {zs:List Int} (hz:kQ W nv zs) (i:Nat):-9223372036854775808<=uT zs i/\uT zs i<=9223372036854775807:=by
 unfold uT
 split
 ·omega
 ·rename_i h
  have hm:i % zs.length<zs.length:=ay _ (List.length_pos_iff.2 h);have:=(hz.at_ _ _ (O hm)).1;rw [Z,O hm];exact this
end Kp
end Go.Proofs.YtghlpefopidlaaaGreat
