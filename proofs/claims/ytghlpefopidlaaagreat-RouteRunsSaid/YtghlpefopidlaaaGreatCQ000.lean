/-
  Rows of elements of . Conditions as told.
-/
import Derived.Test.YtghlpefopidlaaaGreatProg
import Derived.WalkKit
import Derived.ProofKit
import Derived.Laws.AppendOwn
import Derived.Laws.OwnMore
import Derived.Laws.MakeOwn
import Derived.Laws.CopyRow
import Derived.Deep.Slices
import Derived.Deep.CutBlock
import Derived.Deep.Cut
import Derived.Lib.ItoaNum
import GoSem.Claim
import Derived.Laws.Strings
import Derived.RowKit
set_option maxRecDepth 100000
set_option maxHeartbeats 64000000
open _root_.Array renaming length_toList->aH
open _root_.Bool renaming and_eq_true->D,true->Z,false->aj,eq_iff_iff->au,true_and->aF,not_false->aT,false_and->aU,not_true->aV
open _root_.Go renaming World->V,Value->X,TypeId->Y,Addr->aR
open Go.Op renaming bytesLess->J
open Go.Proofs.Tryz renaming prog->ay
open Go.Value renaming slice->aC,pointer->aS,int->aX
open _root_.Int renaming le_refl->aM
open _root_.List renaming getElem?_eq_some_iff->aA,pairwise_cons->aB,prefix_of_prefix_length_le->aD,mem_cons_of_mem->aG,getElem?_append_right->aI,mem_cons_self->aJ,mem_cons->aL,length_drop->aN,length_take->aO
open _root_.Nat renaming le_refl->aK,add_mul->aP,min_eq_left->aQ,lt_or_ge->aW
open _root_.Option renaming none->L,some->O
open Option.some renaming inj->U
open _root_.Or renaming inr->ah,inl->ak
namespace Go.Proofs.YtghlpefopidlaaaGreat
namespace Rw
open Go.RowKit
structure Ek (α:Type) where
 t:Y
 ts:Y
 n:Nat
 bytes:Nat
 z:X
 val:α->X
 cells:α->List X
structure Ek.Ok {α:Type} (E:Ek α):Prop where
 hu:Tryz.prog.underlying E.ts=O (.slice E.t)
 info:∃ i,Tryz.prog.info? E.t=O i/\i.zero=O E.z/\i.size=E.n/\i.bytes=E.bytes
 zs:E.z.cells.size=E.n
 len:∀ x,(E.cells x).length=E.n
 one:∀ x,∀ u∈E.cells x,u.oneCell'=Z
 pos:0<E.n
 few:E.bytes<=100000
 load:∀ (w:V) (p:aR) (x:α),(∀ j u,(E.cells x)[j]?=O u->w.cell? (p.add j)=O u)->(Instr.loadAt E.t (aS (O p))).run ay w=.ok (E.val x) w
variable {α:Type} {E:Ek α}
def flat (E:Ek α):List α->List X
 | []=>[]
 | x::r=>E.cells x++flat E r
theorem eG:∀ a b:List α,flat E (a++b)=flat E a++flat E b
 | [],b=>rfl
 | x::r,b=>by simp [flat,eG r b]
theorem Ah (x:α):flat E [x]=E.cells x:=by simp [flat]
theorem dh (K:E.Ok):∀ l:List α,(flat E l).length=l.length * E.n
 | []=>by simp [flat]
 | x::r=>by simp [flat,dh K r,K.len x,aP]; omega
theorem iT (K:E.Ok):∀ l:List α,∀ u∈flat E l,u.oneCell'=Z
 | [],u,h=>by cases h
 | x::r,u,h=>by
  simp only [flat,List.mem_append] at h;rcases h with h|h
  ·exact K.one x u h
  ·exact iT K r u h
theorem uK (K:E.Ok):∀ (l:List α) (m:Nat) (x:α),l[m]?=O x->∀ j,j<E.n->(flat E l)[m * E.n+j]?=(E.cells x)[j]?
 | [],m,x,h,_,_=>by simp at h
 | y::r,0,x,h,j,hj=>by
  simp at h;subst h;simp only [flat];rw [Nat.zero_mul,Nat.zero_add,List.getElem?_append_left (by rw [K.len]; exact hj)]
 | y::r,m+1,x,h,j,hj=>by
  have h2:=uK K r m x (by simpa using h) j hj;simp only [flat];rw [aI (by rw [K.len,aP]; omega),K.len,show (m+1) * E.n+j-E.n=m * E.n+j by rw [aP]; omega];exact h2
theorem add_add (a:aR) (i j:Nat):(a.add i).add j=a.add (i+j):=by
 unfold Addr.add;by_cases hi:i=0 <;> by_cases hj:j=0 <;> simp [hi,hj,Nat.add_assoc]
theorem add_block (a:aR) (i:Nat):(a.add i).block=a.block:=by unfold Addr.add; split <;> rfl
theorem jM (g j:Nat):(⟨g,0,L⟩:aR).add j=⟨g,j,L⟩:=by unfold Addr.add; split <;> simp_all
theorem add_pos (p:aR) (j:Nat) (h:j≠0):p.add j=⟨p.block,p.off+j,L⟩:=by unfold Addr.add; rw [if_neg h]
theorem add_zero (p:aR):p.add 0=p:=by unfold Addr.add; simp
theorem lt_of_heap {w:V} {b:Nat} {o:Obj} (h:w.heap[b]?=O o):b<w.heap.size:=by
 rcases aW b w.heap.size with h0|h0
 ·exact h0
 ·simp [Array.getElem?_eq_none h0] at h
theorem kG (w:V) (row:Option Nat):w.grownBy w row:=⟨rfl,rfl,rfl,aK _,fun _ _ _=>rfl⟩
def Row (E:Ek α) (W:V) (v:X) (l:List α):Prop :=
 (l=[]/\v=aC L 0 0)\/∃ (a:aR) (cap:Nat),v=aC (O a) l.length cap/\l.length<=cap/\cap<=maxLen/\∀ j u,(flat E l)[j]?=O u->W.cell? (a.add j)=O u
theorem Row.on {W W':V} {v:X} {l:List α} (h:Row E W v l) (hb:Below W.heap.size W W'):Row E W' v l:=by
 rcases h with h|⟨a,cap,h1,h2,h3,h5⟩
 ·exact ak h
 ·exact ah ⟨a,cap,h1,h2,h3,fun j u hj=>by
   have hc:=h5 j u hj;rw [hb.cell (World.block_lt_of_cell? W _ hc)]; exact hc⟩
theorem Row.len {W:V} {v:X} {l:List α} (h:Row E W v l):∃ ao cap,v=aC ao l.length cap:=by
 rcases h with⟨rfl,rfl⟩|⟨a,cap,rfl,_⟩
 ·exact⟨L,0,rfl⟩
 ·exact⟨_,cap,rfl⟩
theorem Row.most {W:V} {v:X} {l:List α} (h:Row E W v l):l.length<=maxLen:=by
 rcases h with⟨rfl,rfl⟩|⟨a,cap,rfl,h1,h2,_⟩
 ·exact Nat.zero_le _
 ·omega
theorem jc (W:V):Row E W (aC L 0 0) ([]:List α):=ak ⟨rfl,rfl⟩
abbrev Own (E:Ek α) (W:V) (B:Nat) (v:X) (l:List α):Prop:=W.ownsRow B E.t E.n v l.length (flat E l)
theorem Row.dx {W:V} {B:Nat} {v:X} {l:List α} (h:Own E W B v l):Row E W v l:=by
 rcases h.2 with⟨h1,h2⟩|⟨g,cap,cur,h1,h2,h3,h4,h5,h6,h7⟩
 ·exact ak ⟨List.eq_nil_of_length_eq_zero h2,h1⟩
 ·exact ah ⟨⟨g,0,L⟩,cap,h1,h4,h5,fun j u hj=>h.cells (g:=g) (by rw [h1]; rfl) j u hj⟩
theorem dw {W W':V} {B k:Nat} {e:Y} {v:X} {n:Nat} {xs:List X} (h:W.ownsRow B e k v n xs) (hb:Below W.heap.size W W'):W'.ownsRow B e k v n xs:=by
 refine⟨h.1,?_⟩;rcases h.2 with h2|⟨g,cap,cur,h1,h2,h3,h4⟩
 ·exact ak h2
 ·exact ah ⟨g,cap,cur,h1,h2,by rw [hb.block _ (lt_of_heap h3)]; exact h3,h4⟩
theorem gN (W:V) (B:Nat):Own E W B (aC L 0 0) ([]:List α):=World.ownsRow_nil _ _ _ _
theorem oK (K:E.Ok) (a:aR) (m len cap:Nat) (h:m<len) (w:V):(Instr.indexAt E.ts (aC (O a) len cap) (aX .i64 m)).run ay w=.ok (aS (O (a.add (m * E.n)))) w:=by
 have h1:(m:Int)<len:=by omega
 obtain⟨i,i1,i2,i3,i4⟩:=K.info;simp [go_sem,K.hu,sizeOf,typeInfo,h1,i1,i3]
theorem jX (K:E.Ok) (g m len cap:Nat) (h:m<len) (w:V):(Instr.indexAt E.ts (aC (O ⟨g,0,L⟩) len cap) (aX .i64 m)).run ay w=.ok (aS (O ⟨g,m * E.n,L⟩)) w:=by
 rw [oK K ⟨g,0,L⟩ m len cap h w,jM]
theorem mR (K:E.Ok) {W:V} {v:X} {l:List α} {ao:Option aR} {n c k:Nat} {x:α} (h:Row E W v l) (hv:v=aC ao n c) (hn:l.length=n) (hk:l[k]?=O x) :
  ∃ p:aR,(∀ w,(Instr.indexAt E.ts (aC ao n c) (aX .i64 k)).run ay w=.ok (aS (O p)) w)/\p.block<W.heap.size/\∀ w,Below W.heap.size W w->∀ j u,(E.cells x)[j]?=O u->w.cell? (p.add j)=O u:=by
 have hlt:=(aA.1 hk).1;rcases h with⟨rfl,_⟩|⟨a,cap,h1,h2,h3,h4⟩
 ·simp at hk
 ·rw [hv] at h1;obtain⟨rfl,rfl,rfl⟩:ao=O a/\n=l.length/\c=cap:=by simpa using h1
  have g:∀ j u,(E.cells x)[j]?=O u->W.cell? ((a.add (k * E.n)).add j)=O u:=fun j u hj=>by
   have hjn:j<E.n:=by have:=(aA.1 hj).1; rw [K.len] at this; exact this
   rw [add_add];exact h4 _ u ((uK K l k x hk j hjn).trans hj)
  have hp:=K.pos;have hb:(a.add (k * E.n)).block<W.heap.size:=by
   obtain⟨u,hu⟩:∃ u,(E.cells x)[0]?=O u:=⟨_,List.getElem?_eq_getElem (by rw [K.len]; exact hp)⟩;have:=World.block_lt_of_cell? W _ (g 0 u hu)
   rwa [add_zero] at this
  exact⟨a.add (k * E.n),fun w=>oK K a k _ _ hlt w,hb,fun w hw j u hj=>by
   rw [hw.cell (by rw [add_block]; exact hb)];exact g j u hj⟩
theorem fZ (K:E.Ok) (a:aR) (k len cap:Nat) (h:k<=cap) (w:V):(Instr.sliceAt E.ts (aC (O a) len cap) L (O (aX .i64 k)) L).run ay w=.ok (aC (O a) k cap) w:=by
 have h1:(k:Int)<=cap:=by omega
 obtain⟨i,i1,i2,i3,i4⟩:=K.info;simp [go_sem,K.hu,sizeOf,typeInfo,h1,i1,i3]
theorem nJ (K:E.Ok) (a:aR) (k len cap:Nat) (h:k<=len) (w:V):(Instr.sliceAt E.ts (aC (O a) len cap) (O (aX .i64 k)) L L).run ay w=.ok (aC (O (if cap=k then a else a.add (k * E.n))) (len-k) (cap-k)) w:=by
 have h1:(k:Int)<=len:=by omega
 obtain⟨i,i1,i2,i3,i4⟩:=K.info;by_cases he:cap=k
 ·subst he;simp [go_sem,K.hu,sizeOf,typeInfo,h1,i1,i3]
 ·simp [go_sem,K.hu,sizeOf,typeInfo,h1,he,i1,i3]
theorem qw (K:E.Ok) {W:V} {v:X} {l:List α} (h:Row E W v l) (k:Nat) (hk:k<=l.length):∃ hi,(∀ w,(Instr.sliceAt E.ts v (O (aX .i64 k)) L L).run ay w=.ok hi w)/\Row E W hi (l.drop k):=by
 rcases h with⟨rfl,rfl⟩|⟨a,cap,rfl,h2,h3,h4⟩
 ·obtain rfl:k=0:=by simpa using hk
  obtain⟨i,i1,i2,i3,i4⟩:=K.info;exact⟨aC L 0 0,fun w=>by simp [go_sem,K.hu,sizeOf,typeInfo,i1],ak ⟨rfl,rfl⟩⟩
 ·refine⟨_,nJ K a k _ _ hk,ah ⟨_,cap-k,by rw [aN],by rw [aN]; omega,by omega,fun j u hj=>?_⟩⟩;have hlt:=(aA.1 hj).1;have hne:(l.drop k)≠[]:=by rintro e; rw [e] at hlt; simp [flat] at hlt
  have hlk:k<l.length:=by
   rcases aW k l.length with h0|h0
   ·exact h0
   ·exact absurd (List.drop_eq_nil_of_le h0) hne
  rw [if_neg (by omega),add_add];refine h4 _ u ?_
  conv=>lhs; rw [<- List.take_append_drop k l,eG]
  rw [aI (by rw [dh K,aO,aQ hk]; omega),dh K,aO,aQ hk,show k * E.n+j-k * E.n=j by omega];exact hj
theorem jq (K:E.Ok) {w:V} (B:Nat) {v x:X} {l m:List α} (hown:Own E w B v l) (hx:Row E w x m) (hn:l.length<=1000) (hm:m.length<=1000) (hB:B<=w.heap.size) (ty:Y) :
  ∃ v' w',(Builtin.append_ #[E.ts,E.ts] ty #[v,x]).run ay w=.ok v' w'/\Own E w' B v' (l++m)/\w.grownBy w' v.ownBlock:=by
 obtain⟨i,i1,i2,i3,i4⟩:=K.info;rcases hx with⟨rfl,rfl⟩|⟨ad,c,rfl,h2,h3,h4⟩
 ·exact⟨v,w,run_append_owned_none (P:=ay) (w:=w) B E.ts ty E.t i E.n K.hu i1 v _ _ hown,by simpa using hown,kG _ _⟩
 ·have hf:=K.few;obtain⟨v',w',r1,r2,r3,_⟩:=run_append_own (P:=ay) w B E.ts ty E.t i E.z E.n E.bytes K.hu i1 i2 i3 i4 K.zs K.pos v _ _ hown ad m.length c (flat E m) (dh K m) h4 (iT K m) (by unfold maxLen; omega)
   (Nat.le_trans (Nat.mul_le_mul (show l.length+m.length<=2000 by omega) hf) (by decide)) hB
  exact⟨v',w',r1,by rw [Own,List.length_append,eG]; exact r2,r3⟩
theorem nK (K:E.Ok) (w:V) (l:List α) (n:Nat) (hn:n=l.length) (hl:l.length<=1000) (cs:Array X) (hcs:cs.toList=flat E l):Own E (w.alloc (.cells cs E.t)) w.heap.size (aC (O ⟨w.heap.size,0,L⟩) n n) l:=by
 subst hn;have hsz:cs.size=l.length * E.n:=by rw [<- dh K,<- hcs,aH]
 refine⟨dh K l,ah ⟨w.heap.size,l.length,cs,rfl,aK _,?_,aK _,by unfold maxLen; omega,hsz,?_⟩⟩
 ·show (w.heap.push _)[w.heap.size]?=_;simp
 ·rw [<- hcs,List.take_of_length_le (by rw [aH,hsz]; exact aK _)]
def cZ (W:V) (b:Nat) (cs:Array X) (t:Y):Prop:=W.heap[b]?=O (.cells cs t (0,0))
theorem cZ.cell {W:V} {b:Nat} {cs:Array X} {t:Y} (h:cZ W b cs t) (k:Nat):W.cell? ⟨b,k,L⟩=cs[k]?:=by
 unfold cZ at h;simp [World.cell?,h]
theorem cZ.fr {W:V} {b:Nat} {cs:Array X} {t:Y} (h:cZ W b cs t) (k:Nat):W.frozen? ⟨b,k,L⟩=aj:=by
 unfold cZ at h;simp [World.frozen?,h]
theorem cZ.cs2 {W:V} {b:Nat} {t:Y} {a0 a1:X} (h:cZ W b #[a0,a1] t):W.cell? ⟨b,0,L⟩=O a0/\W.cell? ⟨b,1,L⟩=O a1:=⟨h.cell 0,h.cell 1⟩
theorem cZ.VD {W:V} {b:Nat} {t:Y} {a0 a1 a2:X} (h:cZ W b #[a0,a1,a2] t):W.cell? ⟨b,0,L⟩=O a0/\W.cell? ⟨b,1,L⟩=O a1/\W.cell? ⟨b,2,L⟩=O a2:=⟨h.cell 0,h.cell 1,h.cell 2⟩
theorem cZ.zD {W:V} {b:Nat} {t:Y} {a0 a1 a2 a3:X} (h:cZ W b #[a0,a1,a2,a3] t):W.cell? ⟨b,0,L⟩=O a0/\W.cell? ⟨b,1,L⟩=O a1/\W.cell? ⟨b,2,L⟩=O a2/\W.cell? ⟨b,3,L⟩=O a3:=⟨h.cell 0,h.cell 1,h.cell 2,h.cell 3⟩
theorem cZ.VE {W:V} {b:Nat} {t:Y} {a0 a1 a2 a3 a4:X} (h:cZ W b #[a0,a1,a2,a3,a4] t):W.cell? ⟨b,0,L⟩=O a0/\W.cell? ⟨b,1,L⟩=O a1/\W.cell? ⟨b,2,L⟩=O a2/\W.cell? ⟨b,3,L⟩=O a3/\W.cell? ⟨b,4,L⟩=O a4:=⟨h.cell 0,h.cell 1,h.cell 2,h.cell 3,h.cell 4⟩
theorem cZ.fQ {W:V} {b:Nat} {t:Y} {a0 a1 a2 a3 a4 a5:X} (h:cZ W b #[a0,a1,a2,a3,a4,a5] t):W.cell? ⟨b,0,L⟩=O a0/\W.cell? ⟨b,1,L⟩=O a1/\W.cell? ⟨b,2,L⟩=O a2/\W.cell? ⟨b,3,L⟩=O a3/\W.cell? ⟨b,4,L⟩=O a4/\W.cell? ⟨b,5,L⟩=O a5:=⟨h.cell 0,h.cell 1,h.cell 2,h.cell 3,h.cell 4,h.cell 5⟩
theorem cZ.Ai {W:V} {b:Nat} {t:Y} {a0 a1 a2 a3 a4 a5 a6:X} (h:cZ W b #[a0,a1,a2,a3,a4,a5,a6] t):W.cell? ⟨b,0,L⟩=O a0/\W.cell? ⟨b,1,L⟩=O a1/\W.cell? ⟨b,2,L⟩=O a2/\W.cell? ⟨b,3,L⟩=O a3/\W.cell? ⟨b,4,L⟩=O a4/\W.cell? ⟨b,5,L⟩=O a5/\W.cell? ⟨b,6,L⟩=O a6:=⟨h.cell 0,h.cell 1,h.cell 2,h.cell 3,h.cell 4,h.cell 5,h.cell 6⟩
theorem cZ.VF {W:V} {b:Nat} {cs:Array X} {t:Y} (h:cZ W b cs t):W.frozen? ⟨b,0,L⟩=aj/\W.frozen? ⟨b,1,L⟩=aj:=⟨h.fr 0,h.fr 1⟩
theorem cZ.PU {W:V} {b:Nat} {cs:Array X} {t:Y} (h:cZ W b cs t):W.frozen? ⟨b,0,L⟩=aj/\W.frozen? ⟨b,1,L⟩=aj/\W.frozen? ⟨b,2,L⟩=aj/\W.frozen? ⟨b,3,L⟩=aj:=⟨h.fr 0,h.fr 1,h.fr 2,h.fr 3⟩
theorem cZ.mD {W:V} {b:Nat} {cs:Array X} {t:Y} (h:cZ W b cs t):W.frozen? ⟨b,0,L⟩=aj/\W.frozen? ⟨b,1,L⟩=aj/\W.frozen? ⟨b,2,L⟩=aj/\W.frozen? ⟨b,3,L⟩=aj/\W.frozen? ⟨b,4,L⟩=aj/\W.frozen? ⟨b,5,L⟩=aj:=⟨h.fr 0,h.fr 1,h.fr 2,h.fr 3,h.fr 4,h.fr 5⟩
theorem cZ.Pb {W:V} {b:Nat} {cs:Array X} {t:Y} (h:cZ W b cs t):W.frozen? ⟨b,0,L⟩=aj/\W.frozen? ⟨b,1,L⟩=aj/\W.frozen? ⟨b,2,L⟩=aj/\W.frozen? ⟨b,3,L⟩=aj/\W.frozen? ⟨b,4,L⟩=aj/\W.frozen? ⟨b,5,L⟩=aj/\W.frozen? ⟨b,6,L⟩=aj:=⟨h.fr 0,h.fr 1,h.fr 2,h.fr 3,h.fr 4,h.fr 5,h.fr 6⟩
theorem cZ.lt {W:V} {b:Nat} {cs:Array X} {t:Y} (h:cZ W b cs t):b<W.heap.size:=lt_of_heap h
theorem cZ.on {W W':V} {b:Nat} {cs:Array X} {t:Y} (h:cZ W b cs t) (hb:Below W.heap.size W W'):cZ W' b cs t:=by
 have hl:=h.lt;unfold cZ at *;rw [hb.block _ hl]; exact h
theorem cZ.more {W:V} {b:Nat} {cs:Array X} {t:Y} (h:cZ W b cs t) (o:Obj):cZ (W.alloc o) b cs t:=h.on ((Below.refl _ _).alloc (aK _) _)
theorem dG (W:V) (cs:Array X) (t:Y):cZ (W.alloc (.cells cs t)) W.heap.size cs t:=by
 unfold cZ;show (W.heap.push _)[W.heap.size]?=_;simp
theorem wpList_append_run {P:Program} {ops:Array Oper} {rest:List Oper} {o:Oper} {a:Act} {Q:Exit->Act->V->Prop} {w w':V} (hgd:o.guard=L) (s x:Operand) (t:Y)
  (ho:o.op=.call { callee:=.builtin .append,args:=#[s,x],argTypes:=#[t,t] }) {v xv v':X} (hs:a.eval s=v) (hx:a.eval x=xv) (hr:(Builtin.append_ #[t,t] o.type #[v,xv]).run P w=.ok v' w')
  (h:wpList P ops Q rest (a.put o.dst v') w'):wpList P ops Q (o::rest) a w:=by
 refine wpList_plain hgd fun K hK=>?_;unfold Oper.wp execOp;simp only [ho,resolve,invoke,builtin,Sem.run_bind,Sem.run_pure,Result.andThen_ok,List.map_toArray,List.map_cons,List.map_nil,hs,hx,hr];exact hK _ _ h
def eu (k:Nat):Code->Option Code
 | .region id ops d=>if id=k then O (.region id ops d) else L
 | .seq a b=>match eu k a with
  | some c=>O c
  | none=>eu k b
 | .cond _ a b=>match eu k a with
  | some c=>O c
  | none=>eu k b
 | .block _ c=>eu k c
 | .loop c=>eu k c
 | .scope c=>eu k c
 | _=>L
end Rw
namespace Mk
/-! ### the order of texts -/
theorem sI:∀ x:List UInt8,J x x=aj
 | []=>rfl
 | a::x=>by simp [J,sI x]
theorem uL (a b:UInt8) (x y:List UInt8):J (a::x) (b::y)=Z↔a.toNat<b.toNat\/(a.toNat=b.toNat/\J x y=Z):=by
 simp only [J,Bool.or_eq_true,decide_eq_true_eq,D,beq_iff_eq,UInt8.lt_iff_toNat_lt];constructor
 ·rintro (h|⟨h,k⟩)
  ·exact ak h
  ·exact ah ⟨by rw [h],k⟩
 ·rintro (h|⟨h,k⟩)
  ·exact ak h
  ·exact ah ⟨UInt8.toNat_inj.1 h,k⟩
theorem qx:∀ x y z:List UInt8,J x y=Z->J y z=Z->J x z=Z
 | _,[],_,h,_=>by cases ‹List UInt8› <;> simp [J] at h
 | _,_::_,[],_,k=>by simp [J] at k
 | [],_::_,_::_,_,_=>rfl
 | a::x,b::y,c::z,h,k=>by
  rw [uL] at h k ⊢;rcases h with h|⟨h,h2⟩ <;> rcases k with k|⟨k,k2⟩
  ·exact ak (by omega)
  ·exact ak (by omega)
  ·exact ak (by omega)
  ·exact ah ⟨by omega,qx x y z h2 k2⟩
theorem vU:∀ x y:List UInt8,J x y=Z\/x=y\/J y x=Z
 | [],[]=>ah (ak rfl)
 | [],_::_=>ak rfl
 | _::_,[]=>ah (ah rfl)
 | a::x,b::y=>by
  rw [uL,uL];rcases Nat.lt_trichotomy a.toNat b.toNat with h|h|h
  ·exact ak (ak h)
  ·rcases vU x y with k|k|k
   ·exact ak (ah ⟨h,k⟩)
   ·exact ah (ak (by rw [k,UInt8.toNat_inj.1 h]))
   ·exact ah (ah (ah ⟨h.symm,k⟩))
  ·exact ah (ah (ak h))
end Mk
namespace Pu
open Go.RowKit
def qc (c:UInt8):Bool:=decide (97<=c.toNat) && decide (c.toNat<=122)
def jN (s:ByteArray):Bool:=s.data.toList.all qc && (decide (1<=s.size) && decide (s.size<=12))
theorem sJ (s:ByteArray) (k:Nat) (h:k<s.size) (hc:qc s[k]=aj):jN s=aj:=by
 have:s.data.toList.all qc=aj:=by
  rw [List.all_eq_false];exact⟨s[k],by rw [Array.mem_toList_iff]; exact Array.getElem_mem h,by rw [hc]; decide⟩
 simp [jN,this]
theorem Aj (s:ByteArray) (h:∀ (j:Nat) (hj:j<s.size),qc s[j]=Z):jN s=(decide (1<=s.size) && decide (s.size<=12)):=by
 have:s.data.toList.all qc=Z:=by
  rw [List.all_eq_true];intro c hc;obtain⟨j,hj,rfl⟩:=List.getElem_of_mem hc;exact h j (by rw [aH] at hj; exact hj)
 simp [jN,this]
theorem nL {a b:ByteArray} (h:a.toList=b.toList):a=b:=by
 rw [ByteArray.toList_eq,ByteArray.toList_eq] at h;exact WideShapes.bytes_inj h
theorem He {a b:ByteArray} (h:J a.toList b.toList=Z):a≠b:=by
 rintro rfl;rw [Mk.sI] at h; cases h
theorem Hf {a b:ByteArray} (h1:¬ J a.toList b.toList=Z) (h2:a≠b):J b.toList a.toList=Z:=by
 rcases Mk.vU a.toList b.toList with h|h|h
 ·exact absurd h h1
 ·exact absurd (nL h) h2
 ·exact h
end Pu
namespace Pr
open Go.RowKit Pu
inductive Kd where
 | rg (lo hi:Int)
 | tx (t:ByteArray)
 | pr (t:ByteArray)
abbrev Cn:=ByteArray×Kd
abbrev V3:=Bool×Int×ByteArray
def kN:Kd->Int
 | .rg _ _=>1
 | .tx _=>2
 | .pr _=>3
def mI:Kd->Int
 | .rg lo _=>lo
 | _=>0
def mJ:Kd->Int
 | .rg _ hi=>hi
 | _=>0
def kT:Kd->ByteArray
 | .rg _ _=>⟨#[]⟩
 | .tx t=>t
 | .pr t=>t
def pfx (s t:ByteArray):Bool:=s.data.toList.isPrefixOf t.data.toList
theorem eF (s t:ByteArray):pfx s t=Z↔s.data.toList <+: t.data.toList:=List.isPrefixOf_iff_prefix
theorem jY (s:ByteArray):pfx s s=Z:=(eF s s).2 (List.prefix_refl _)
def gH:Kd->Bool
 | .rg lo hi=>decide (lo<=hi)
 | .tx t=>decide (t.size<=12)
 | .pr t=>decide (t.size<12)
def qy (c:Cn):Bool:=jN c.1 && gH c.2
def dI:Kd->V3->Bool
 | .rg lo hi,v=>!v.1 && (decide (lo<=v.2.1) && decide (v.2.1<=hi))
 | .tx t,v=>v.1 && (v.2.2.data.toList == t.data.toList)
 | .pr t,v=>v.1 && pfx t v.2.2
def fE:Kd->Kd->Option Kd
 | .rg a b,.rg c d=>if max a c<=min b d then O (.rg (max a c) (min b d)) else L
 | .tx s,.tx t=>if s.data.toList=t.data.toList then O (.tx s) else L
 | .tx s,.pr t=>if pfx t s then O (.tx s) else L
 | .pr s,.tx t=>if pfx s t then O (.tx t) else L
 | .pr s,.pr t=>if pfx s t then O (.pr t) else if pfx t s then O (.pr s) else L
 | _,_=>L
theorem nM {s t:ByteArray} (h:s.data.toList=t.data.toList):s=t:=WideShapes.bytes_inj h
theorem Ak (a b c:Kd) (ha:gH a=Z) (hb:gH b=Z) (h:fE a b=O c):gH c=Z/\∀ v,dI c v=(dI a v && dI b v):=by
 cases a with
 | rg p q=>cases b with
  | rg r s =>
   simp only [fE] at h
   split at h
   ·rename_i hc
    obtain rfl:=U h;refine⟨by simpa [gH] using hc,fun v=>?_⟩;obtain⟨t,n,u⟩:=v;cases t <;> simp only [dI,aV,aT,aU,aF];rw [au];simp only [D,decide_eq_true_eq];omega
   ·cases h
  | tx t=>simp [fE] at h
  | pr t=>simp [fE] at h
 | tx p=>cases b with
  | rg r s=>simp [fE] at h
  | tx t =>
   simp only [fE] at h
   split at h
   ·rename_i hc
    obtain rfl:=U h;exact⟨ha,fun v=>by simp [dI,hc]⟩
   ·cases h
  | pr t =>
   simp only [fE] at h
   split at h
   ·rename_i hc
    obtain rfl:=U h;refine⟨ha,fun v=>?_⟩;rw [au];simp only [dI,D,beq_iff_eq];constructor
    ·rintro⟨h1,h2⟩;exact⟨⟨h1,h2⟩,h1,by rw [eF,h2,<- eF]; exact hc⟩
    ·rintro⟨h1,_⟩;exact h1
   ·cases h
 | pr p=>cases b with
  | rg r s=>simp [fE] at h
  | tx t =>
   simp only [fE] at h
   split at h
   ·rename_i hc
    obtain rfl:=U h;refine⟨hb,fun v=>?_⟩;rw [au];simp only [dI,D,beq_iff_eq];constructor
    ·rintro⟨h1,h2⟩;exact⟨⟨h1,by rw [eF,h2,<- eF]; exact hc⟩,h1,h2⟩
    ·rintro⟨_,h1⟩;exact h1
   ·cases h
  | pr t =>
   simp only [fE] at h
   split at h
   ·rename_i hc
    obtain rfl:=U h;refine⟨hb,fun v=>?_⟩;rw [au];simp only [dI,D];constructor
    ·rintro⟨h1,h2⟩;exact⟨⟨h1,(eF _ _).2 (((eF _ _).1 hc).trans ((eF _ _).1 h2))⟩,h1,h2⟩
    ·rintro⟨_,h1⟩;exact h1
   ·split at h
    ·rename_i _ hc
     obtain rfl:=U h;refine⟨ha,fun v=>?_⟩;rw [au];simp only [dI,D];constructor
     ·rintro⟨h1,h2⟩;exact⟨⟨h1,h2⟩,h1,(eF _ _).2 (((eF _ _).1 hc).trans ((eF _ _).1 h2))⟩
     ·rintro⟨h1,_⟩;exact h1
    ·cases h
theorem Al (a b:Kd) (h:fE a b=L) (v:V3):(dI a v && dI b v)=aj:=by
 obtain⟨w,n,u⟩:=v;rw [Bool.eq_false_iff];intro hv;rw [D] at hv;obtain⟨h1,h2⟩:=hv;cases a with
 | rg p q=>cases b with
  | rg r s =>
   simp only [fE] at h
   split at h
   ·cases h
   ·rename_i hc
    simp only [dI,D,decide_eq_true_eq] at h1 h2;omega
  | tx t=>simp only [dI,D] at h1 h2; rw [h2.1] at h1; cases h1.1
  | pr t=>simp only [dI,D] at h1 h2; rw [h2.1] at h1; cases h1.1
 | tx p=>cases b with
  | rg r s=>simp only [dI,D] at h1 h2; rw [h1.1] at h2; cases h2.1
  | tx t =>
   simp only [dI,D,beq_iff_eq] at h1 h2;simp only [fE] at h;rw [if_pos (h1.2.symm.trans h2.2)] at h;cases h
  | pr t =>
   simp only [dI,D,beq_iff_eq] at h1 h2;simp only [fE] at h;rw [if_pos (by rw [eF,<- h1.2,<- eF]; exact h2.2)] at h;cases h
 | pr p=>cases b with
  | rg r s=>simp only [dI,D] at h1 h2; rw [h1.1] at h2; cases h2.1
  | tx t =>
   simp only [dI,D,beq_iff_eq] at h1 h2;simp only [fE] at h;rw [if_pos (by rw [eF,<- h2.2,<- eF]; exact h1.2)] at h;cases h
  | pr t =>
   simp only [dI,D] at h1 h2;have e1:=(eF _ _).1 h1.2;have e2:=(eF _ _).1 h2.2;simp only [fE] at h;rcases Nat.le_total p.data.toList.length t.data.toList.length with hl|hl
   ·rw [if_pos ((eF _ _).2 (aD e1 e2 hl))] at h;cases h
   ·by_cases hp:pfx p t=Z
    ·rw [if_pos hp] at h; cases h
    ·rw [if_neg hp,if_pos ((eF _ _).2 (aD e2 e1 hl))] at h;cases h
theorem xZ (a:Kd) (h:gH a=Z):∃ v,dI a v=Z:=by
 cases a with
 | rg lo hi =>
  simp only [gH,decide_eq_true_eq] at h;exact⟨(aj,lo,⟨#[]⟩),by simp [dI,h]⟩
 | tx t=>exact⟨(Z,0,t),by simp [dI]⟩
 | pr t=>exact⟨(Z,0,t),by simp only [dI,aF]; exact jY t⟩
theorem jd (t s:ByteArray):dI (.pr t) (Z,0,s)=pfx t s:=by simp only [dI,aF]
theorem jr (t s:ByteArray):dI (.tx t) (Z,0,s)=(s.data.toList == t.data.toList):=by simp only [dI,aF]
theorem lQ (a b:Int) (s:ByteArray):dI (.rg a b) (Z,0,s)=aj:=by simp only [dI,aV,aU]
theorem qz (a b n:Int):dI (.rg a b) (aj,n,⟨#[]⟩)=(decide (a<=n) && decide (n<=b)):=by simp only [dI,aT,aF]
def more (t:ByteArray):ByteArray:=⟨(t.data.toList++[0]).toArray⟩
theorem vV (t:ByteArray):pfx t (more t)=Z:=(eF _ _).2 (List.prefix_append _ _)
theorem sK (p t:ByteArray) (h:∀ v,dI (.tx p) v=dI (.pr t) v):False:=by
 have h1:=h (Z,0,more t);have h2:=h (Z,0,t);rw [jr,jd,vV,beq_iff_eq] at h1;rw [jr,jd,jY,beq_iff_eq] at h2;rw [<- h2] at h1;have h3:=congrArg List.length h1;simp [more] at h3
theorem x9 (a b:Kd) (ha:gH a=Z) (hb:gH b=Z) (h:∀ v,dI a v=dI b v):a=b:=by
 cases a with
 | rg p q=>cases b with
  | rg r s =>
   simp only [gH,decide_eq_true_eq] at ha hb;have le:∀ n,(p<=n/\n<=q)↔(r<=n/\n<=s):=fun n=>by
    have h1:=h (aj,n,⟨#[]⟩);rw [qz,qz,au,D,D,decide_eq_true_eq,decide_eq_true_eq,decide_eq_true_eq,decide_eq_true_eq] at h1;exact h1
   have h1:=(le p).1 ⟨aM _,ha⟩;have h2:=(le q).1 ⟨ha,aM _⟩;have h3:=(le r).2 ⟨aM _,hb⟩;have h4:=(le s).2 ⟨hb,aM _⟩;rw [show p=r by omega,show q=s by omega]
  | tx t=>have h1:=h (Z,0,t); rw [lQ,jr,beq_self_eq_true] at h1; cases h1
  | pr t=>have h1:=h (Z,0,t); rw [lQ,jd,jY] at h1; cases h1
 | tx p=>cases b with
  | rg r s=>have h1:=h (Z,0,p); rw [lQ,jr,beq_self_eq_true] at h1; cases h1
  | tx t =>
   have h1:=h (Z,0,p);rw [jr,jr,beq_self_eq_true] at h1;rw [nM (beq_iff_eq.1 h1.symm)]
  | pr t=>exact (sK p t h).elim
 | pr p=>cases b with
  | rg r s=>have h1:=h (Z,0,p); rw [lQ,jd,jY] at h1; cases h1
  | tx t=>exact (sK t p fun v=>(h v).symm).elim
  | pr t =>
   have h1:=h (Z,0,p);have h2:=h (Z,0,t);rw [jd,jd,jY] at h1 h2;have e1:=(eF _ _).1 h1.symm;have e2:=(eF _ _).1 h2;rw [nM (e2.eq_of_length_le e1.length_le)]
/-! ### normal forms -/
def je (l:List Cn):Prop:=l.Pairwise fun x y=>J x.1.toList y.1.toList=Z
def mU:List Cn->Cn->Option (List Cn)
 | [],c=>O [c]
 | x::r,c=>if J x.1.toList c.1.toList=Z then (mU r c).map (x::·) else if x.1=c.1 then (fE x.2 c.2).map (fun k=>(x.1,k)::r) else O (c::x::r)
def iG:Nat->List Cn->List Cn->Except (Int×Nat) (List Cn)
 | _,m,[]=>.ok m
 | at_,m,c::r=>match mU m c with
  | none=>.error (5,at_)
  | some m'=>if 5<m'.length then .error (7,at_) else iG (at_+1) m' r
def qA (l:List Cn):Except (Int×Nat) (List Cn):=iG 0 [] l
theorem zF:∀ (m:List Cn) (c:Cn),(∀ x∈m,J x.1.toList c.1.toList=Z)->mU m c=O (m++[c])
 | [],c,_=>rfl
 | x::r,c,h=>by
  simp only [mU];rw [if_pos (h x (aJ ..)),zF r c (fun y hy=>h y (aG _ hy))]
  rfl
theorem vW:∀ (p m:List Cn) (at_:Nat),je (m++p)->(m++p).length<=5->iG at_ m p=.ok (m++p)
 | [],m,at_,_,_=>by simp [iG]
 | c::r,m,at_,h,h5=>by
  have h1:∀ x∈m,J x.1.toList c.1.toList=Z:=fun x hx=>(List.pairwise_append.1 h).2.2 x hx c (aJ ..);simp only [iG];rw [zF m c h1];simp only;rw [if_neg (by simp at h5 ⊢; omega),vW r (m++[c]) (at_+1) (by simpa using h) (by simpa using h5)];simp
theorem Am (p:List Cn) (h:je p) (h5:p.length<=5):qA p=.ok p:=by
 have:=vW p [] 0 (by simpa using h) (by simpa using h5);simpa [qA] using this
theorem pQ:∀ (a b m m':List Cn) (at_:Nat),iG at_ m a=.ok m'->iG at_ m (a++b)=iG (at_+a.length) m' b
 | [],b,m,m',at_,h=>by
  simp only [iG] at h;injection h with h
  subst h;simp
 | c::r,b,m,m',at_,h=>by
  simp only [List.cons_append,iG] at h ⊢;cases hi:mU m c with
  | none=>rw [hi] at h; cases h
  | some n =>
   rw [hi] at h;simp only at h ⊢
   split at h
   ·cases h
   ·rename_i hn
    rw [if_neg hn,pQ r b n m' (at_+1) h];rw [List.length_cons,show at_+1+r.length=at_+(r.length+1) by omega]
theorem nN:∀ (m:List Cn) (c:Cn) (m':List Cn),je m->mU m c=O m'->je m'/\∀ y∈m',y.1=c.1\/∃ x∈m,x.1=y.1
 | [],c,m',_,h=>by
  obtain rfl:=U h;exact⟨List.pairwise_singleton _ _,fun y hy=>ak (by simp at hy; rw [hy])⟩
 | x::r,c,m',hr,h=>by
  obtain⟨h1,h2⟩:=aB.1 hr;simp only [mU] at h
  split at h
  ·rename_i hl
   cases hi:mU r c with
   | none=>rw [hi] at h; cases h
   | some n =>
    rw [hi] at h;obtain rfl:=U h;obtain⟨k1,k2⟩:=nN r c n h2 hi;refine⟨aB.2 ⟨fun y hy=>?_,k1⟩,fun y hy=>?_⟩
    ·rcases k2 y hy with e|⟨z,hz,e⟩
     ·rw [e]; exact hl
     ·rw [<- e]; exact h1 z hz
    ·rcases aL.1 hy with rfl|hy
     ·exact ah ⟨y,aJ ..,rfl⟩
     ·rcases k2 y hy with e|⟨z,hz,e⟩
      ·exact ak e
      ·exact ah ⟨z,aG _ hz,e⟩
  ·rename_i hl
   split at h
   ·rename_i he
    cases hb:fE x.2 c.2 with
    | none=>rw [hb] at h; cases h
    | some k =>
     rw [hb] at h;obtain rfl:=U h;refine⟨aB.2 ⟨fun y hy=>h1 y hy,h2⟩,fun y hy=>?_⟩;rcases aL.1 hy with rfl|hy
     ·exact ak he
     ·exact ah ⟨y,aG _ hy,rfl⟩
   ·rename_i he
    obtain rfl:=U h;have hc:J c.1.toList x.1.toList=Z:=Hf hl he;refine⟨aB.2 ⟨fun y hy=>?_,hr⟩,fun y hy=>?_⟩
    ·rcases aL.1 hy with rfl|hy
     ·exact hc
     ·exact Mk.qx _ _ _ hc (h1 y hy)
    ·rcases aL.1 hy with rfl|hy
     ·exact ak rfl
     ·exact ah ⟨y,hy,rfl⟩
/-! ### what they say -/
end Pr
end Go.Proofs.YtghlpefopidlaaaGreat
