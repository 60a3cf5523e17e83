/-
  Rows of elements of . Conditions as told.
-/
import Derived.Test.YtkcfgbddlpomgaaProg
import Derived.WalkKit
import Derived.ProofKit
import Derived.Laws.AppendOwn
import Derived.Laws.OwnMore
import Derived.Laws.MakeOwn
import Derived.Laws.CopyRow
import Derived.Deep.Slices
import Derived.Deep.CutBlock
import Derived.Deep.Cut
set_option maxRecDepth 100000
set_option maxHeartbeats 64000000
open _root_.Bool renaming false->Z
open _root_.Go renaming World->L,Value->O,TypeId->U,Addr->aB,maxLen->aF
open Go.Proofs.Try renaming prog->X
open Go.Value renaming slice->Y,pointer->aC,int->aG
open _root_.List renaming getElem?_eq_some_iff->V,getElem?_append_right->ah,length_drop->ak,length_take->au
open _root_.Nat renaming le_refl->aj,add_mul->ay,min_eq_left->aA,lt_or_ge->aD
open _root_.Option renaming none->D,some->J
namespace Go.Proofs.Ytkcfgbddlpomgaa.Rw
open Go.RowKit
structure Ek (α:Type) where
 t:U
 ts:U
 n:Nat
 bytes:Nat
 z:O
 val:α->O
 cells:α->List O
structure Ek.Ok {α:Type} (E:Ek α):Prop where
 hu:Try.prog.underlying E.ts=J (.slice E.t)
 info:∃ i,Try.prog.info? E.t=J i/\i.zero=J E.z/\i.size=E.n/\i.bytes=E.bytes
 zs:E.z.cells.size=E.n
 len:∀ x,(E.cells x).length=E.n
 one:∀ x,∀ u∈E.cells x,u.oneCell'=true
 pos:0<E.n
 few:E.bytes<=100000
 load:∀ (w:L) (p:aB) (x:α),(∀ j u,(E.cells x)[j]?=J u->w.cell? (p.add j)=J u)->(Instr.loadAt E.t (aC (J p))).run X w=.ok (E.val x) w
variable {α:Type} {E:Ek α}
def flat (E:Ek α):List α->List O
 | []=>[]
 | x::r=>E.cells x++flat E r
theorem dP:∀ a b:List α,flat E (a++b)=flat E a++flat E b
 | [],b=>rfl
 | x::r,b=>by simp [flat,dP r b]
theorem ug (x:α):flat E [x]=E.cells x:=by simp [flat]
theorem cB (K:E.Ok):∀ l:List α,(flat E l).length=l.length * E.n
 | []=>by simp [flat]
 | x::r=>by simp [flat,cB K r,K.len x,ay]; omega
theorem jg (K:E.Ok):∀ l:List α,∀ u∈flat E l,u.oneCell'=true
 | [],u,h=>by cases h
 | x::r,u,h=>by
  simp only [flat,List.mem_append] at h;rcases h with h|h
  ·exact K.one x u h
  ·exact jg K r u h
theorem r9 (K:E.Ok):∀ (l:List α) (m:Nat) (x:α),l[m]?=J x->∀ j,j<E.n->(flat E l)[m * E.n+j]?=(E.cells x)[j]?
 | [],m,x,h,_,_=>by simp at h
 | y::r,0,x,h,j,hj=>by
  simp at h;subst h;simp only [flat];rw [Nat.zero_mul,Nat.zero_add,List.getElem?_append_left (by rw [K.len]; exact hj)]
 | y::r,m+1,x,h,j,hj=>by
  have h2:=r9 K r m x (by simpa using h) j hj;simp only [flat];rw [ah (by rw [K.len,ay]; omega),K.len,show (m+1) * E.n+j-E.n=m * E.n+j by rw [ay]; omega];exact h2
theorem add_add (a:aB) (i j:Nat):(a.add i).add j=a.add (i+j):=by
 unfold Addr.add;by_cases hi:i=0 <;> by_cases hj:j=0 <;> simp [hi,hj,Nat.add_assoc]
theorem add_block (a:aB) (i:Nat):(a.add i).block=a.block:=by unfold Addr.add; split <;> rfl
theorem kZ (g j:Nat):(⟨g,0,D⟩:aB).add j=⟨g,j,D⟩:=by unfold Addr.add; split <;> simp_all
theorem add_pos (p:aB) (j:Nat) (h:j≠0):p.add j=⟨p.block,p.off+j,D⟩:=by unfold Addr.add; rw [if_neg h]
theorem add_zero (p:aB):p.add 0=p:=by unfold Addr.add; simp
theorem lt_of_heap {w:L} {b:Nat} {o:Obj} (h:w.heap[b]?=J o):b<w.heap.size:=by
 rcases aD b w.heap.size with h0|h0
 ·exact h0
 ·simp [Array.getElem?_eq_none h0] at h
theorem jC (w:L) (row:Option Nat):w.grownBy w row:=⟨rfl,rfl,rfl,aj _,fun _ _ _=>rfl⟩
def Row (E:Ek α) (W:L) (v:O) (l:List α):Prop :=
 (l=[]/\v=Y D 0 0)\/∃ (a:aB) (cap:Nat),v=Y (J a) l.length cap/\l.length<=cap/\cap<=aF/\∀ j u,(flat E l)[j]?=J u->W.cell? (a.add j)=J u
theorem Row.on {W W':L} {v:O} {l:List α} (h:Row E W v l) (hb:Below W.heap.size W W'):Row E W' v l:=by
 rcases h with h|⟨a,cap,h1,h2,h3,h5⟩
 ·exact Or.inl h
 ·exact Or.inr ⟨a,cap,h1,h2,h3,fun j u hj=>by
   have hc:=h5 j u hj;rw [hb.cell (World.block_lt_of_cell? W _ hc)]; exact hc⟩
theorem Row.len {W:L} {v:O} {l:List α} (h:Row E W v l):∃ ao cap,v=Y ao l.length cap:=by
 rcases h with⟨rfl,rfl⟩|⟨a,cap,rfl,_⟩
 ·exact⟨D,0,rfl⟩
 ·exact⟨_,cap,rfl⟩
theorem Row.most {W:L} {v:O} {l:List α} (h:Row E W v l):l.length<=aF:=by
 rcases h with⟨rfl,rfl⟩|⟨a,cap,rfl,h1,h2,_⟩
 ·exact Nat.zero_le _
 ·omega
theorem jh (W:L):Row E W (Y D 0 0) ([]:List α):=Or.inl ⟨rfl,rfl⟩
abbrev Own (E:Ek α) (W:L) (B:Nat) (v:O) (l:List α):Prop:=W.ownsRow B E.t E.n v l.length (flat E l)
theorem Row.dw {W:L} {B:Nat} {v:O} {l:List α} (h:Own E W B v l):Row E W v l:=by
 rcases h.2 with⟨h1,h2⟩|⟨g,cap,cur,h1,h2,h3,h4,h5,h6,h7⟩
 ·exact Or.inl ⟨List.eq_nil_of_length_eq_zero h2,h1⟩
 ·exact Or.inr ⟨⟨g,0,D⟩,cap,h1,h4,h5,fun j u hj=>h.cells (g:=g) (by rw [h1]; rfl) j u hj⟩
theorem eG (W:L) (B:Nat):Own E W B (Y D 0 0) ([]:List α):=World.ownsRow_nil _ _ _ _
theorem nu (K:E.Ok) (a:aB) (m len cap:Nat) (h:m<len) (w:L):(Instr.indexAt E.ts (Y (J a) len cap) (aG .i64 m)).run X w=.ok (aC (J (a.add (m * E.n)))) w:=by
 have h1:(m:Int)<len:=by omega
 obtain⟨i,i1,i2,i3,i4⟩:=K.info;simp [go_sem,K.hu,sizeOf,typeInfo,h1,i1,i3]
theorem ji (K:E.Ok) (g m len cap:Nat) (h:m<len) (w:L):(Instr.indexAt E.ts (Y (J ⟨g,0,D⟩) len cap) (aG .i64 m)).run X w=.ok (aC (J ⟨g,m * E.n,D⟩)) w:=by
 rw [nu K ⟨g,0,D⟩ m len cap h w,kZ]
theorem iW (K:E.Ok) {W:L} {v:O} {l:List α} {ao:Option aB} {n c k:Nat} {x:α} (h:Row E W v l) (hv:v=Y ao n c) (hn:l.length=n) (hk:l[k]?=J x) :
  ∃ p:aB,(∀ w,(Instr.indexAt E.ts (Y ao n c) (aG .i64 k)).run X w=.ok (aC (J p)) w)/\p.block<W.heap.size/\∀ w,Below W.heap.size W w->∀ j u,(E.cells x)[j]?=J u->w.cell? (p.add j)=J u:=by
 have hlt:=(V.1 hk).1;rcases h with⟨rfl,_⟩|⟨a,cap,h1,h2,h3,h4⟩
 ·simp at hk
 ·rw [hv] at h1;obtain⟨rfl,rfl,rfl⟩:ao=J a/\n=l.length/\c=cap:=by simpa using h1
  have g:∀ j u,(E.cells x)[j]?=J u->W.cell? ((a.add (k * E.n)).add j)=J u:=fun j u hj=>by
   have hjn:j<E.n:=by have:=(V.1 hj).1; rw [K.len] at this; exact this
   rw [add_add];exact h4 _ u ((r9 K l k x hk j hjn).trans hj)
  have hp:=K.pos;have hb:(a.add (k * E.n)).block<W.heap.size:=by
   obtain⟨u,hu⟩:∃ u,(E.cells x)[0]?=J u:=⟨_,List.getElem?_eq_getElem (by rw [K.len]; exact hp)⟩;have:=World.block_lt_of_cell? W _ (g 0 u hu)
   rwa [add_zero] at this
  exact⟨a.add (k * E.n),fun w=>nu K a k _ _ hlt w,hb,fun w hw j u hj=>by
   rw [hw.cell (by rw [add_block]; exact hb)];exact g j u hj⟩
theorem iC (K:E.Ok) (a:aB) (k len cap:Nat) (h:k<=cap) (w:L):(Instr.sliceAt E.ts (Y (J a) len cap) D (J (aG .i64 k)) D).run X w=.ok (Y (J a) k cap) w:=by
 have h1:(k:Int)<=cap:=by omega
 obtain⟨i,i1,i2,i3,i4⟩:=K.info;simp [go_sem,K.hu,sizeOf,typeInfo,h1,i1,i3]
theorem o8 (K:E.Ok) (a:aB) (k len cap:Nat) (h:k<=len) (w:L):(Instr.sliceAt E.ts (Y (J a) len cap) (J (aG .i64 k)) D D).run X w=.ok (Y (J (if cap=k then a else a.add (k * E.n))) (len-k) (cap-k)) w:=by
 have h1:(k:Int)<=len:=by omega
 obtain⟨i,i1,i2,i3,i4⟩:=K.info;by_cases he:cap=k
 ·subst he;simp [go_sem,K.hu,sizeOf,typeInfo,h1,i1,i3]
 ·simp [go_sem,K.hu,sizeOf,typeInfo,h1,he,i1,i3]
theorem qM (K:E.Ok) {W:L} {v:O} {l:List α} (h:Row E W v l) (k:Nat) (hk:k<=l.length):∃ hi,(∀ w,(Instr.sliceAt E.ts v (J (aG .i64 k)) D D).run X w=.ok hi w)/\Row E W hi (l.drop k):=by
 rcases h with⟨rfl,rfl⟩|⟨a,cap,rfl,h2,h3,h4⟩
 ·obtain rfl:k=0:=by simpa using hk
  obtain⟨i,i1,i2,i3,i4⟩:=K.info;exact⟨Y D 0 0,fun w=>by simp [go_sem,K.hu,sizeOf,typeInfo,i1],Or.inl ⟨rfl,rfl⟩⟩
 ·refine⟨_,o8 K a k _ _ hk,Or.inr ⟨_,cap-k,by rw [ak],by rw [ak]; omega,by omega,fun j u hj=>?_⟩⟩;have hlt:=(V.1 hj).1;have hne:(l.drop k)≠[]:=by rintro e; rw [e] at hlt; simp [flat] at hlt
  have hlk:k<l.length:=by
   rcases aD k l.length with h0|h0
   ·exact h0
   ·exact absurd (List.drop_eq_nil_of_le h0) hne
  rw [if_neg (by omega),add_add];refine h4 _ u ?_
  conv=>lhs; rw [<- List.take_append_drop k l,dP]
  rw [ah (by rw [cB K,au,aA hk]; omega),cB K,au,aA hk,show k * E.n+j-k * E.n=j by omega];exact hj
theorem iq (K:E.Ok) {w:L} (B:Nat) {v x:O} {l m:List α} (hown:Own E w B v l) (hx:Row E w x m) (hn:l.length<=1000) (hm:m.length<=1000) (hB:B<=w.heap.size) (ty:U) :
  ∃ v' w',(Builtin.append_ #[E.ts,E.ts] ty #[v,x]).run X w=.ok v' w'/\Own E w' B v' (l++m)/\w.grownBy w' v.ownBlock:=by
 obtain⟨i,i1,i2,i3,i4⟩:=K.info;rcases hx with⟨rfl,rfl⟩|⟨ad,c,rfl,h2,h3,h4⟩
 ·exact⟨v,w,run_append_owned_none (P:=X) (w:=w) B E.ts ty E.t i E.n K.hu i1 v _ _ hown,by simpa using hown,jC _ _⟩
 ·have hf:=K.few;obtain⟨v',w',r1,r2,r3,_⟩:=run_append_own (P:=X) w B E.ts ty E.t i E.z E.n E.bytes K.hu i1 i2 i3 i4 K.zs K.pos v _ _ hown ad m.length c (flat E m) (cB K m) h4 (jg K m) (by unfold aF; omega)
   (Nat.le_trans (Nat.mul_le_mul (show l.length+m.length<=2000 by omega) hf) (by decide)) hB
  exact⟨v',w',r1,by rw [Own,List.length_append,dP]; exact r2,r3⟩
theorem jk (K:E.Ok) (w:L) (l:List α) (n:Nat) (hn:n=l.length) (hl:l.length<=1000) (cs:Array O) (hcs:cs.toList=flat E l):Own E (w.alloc (.cells cs E.t)) w.heap.size (Y (J ⟨w.heap.size,0,D⟩) n n) l:=by
 subst hn;have hsz:cs.size=l.length * E.n:=by rw [<- cB K,<- hcs,Array.length_toList]
 refine⟨cB K l,Or.inr ⟨w.heap.size,l.length,cs,rfl,aj _,?_,aj _,by unfold aF; omega,hsz,?_⟩⟩
 ·show (w.heap.push _)[w.heap.size]?=_;simp
 ·rw [<- hcs,List.take_of_length_le (by rw [Array.length_toList,hsz]; exact aj _)]
def dh (W:L) (b:Nat) (cs:Array O) (t:U):Prop:=W.heap[b]?=J (.cells cs t (0,0))
theorem dh.cell {W:L} {b:Nat} {cs:Array O} {t:U} (h:dh W b cs t) (k:Nat):W.cell? ⟨b,k,D⟩=cs[k]?:=by
 unfold dh at h;simp [World.cell?,h]
theorem dh.fr {W:L} {b:Nat} {cs:Array O} {t:U} (h:dh W b cs t) (k:Nat):W.frozen? ⟨b,k,D⟩=Z:=by
 unfold dh at h;simp [World.frozen?,h]
theorem dh.cs2 {W:L} {b:Nat} {t:U} {a0 a1:O} (h:dh W b #[a0,a1] t):W.cell? ⟨b,0,D⟩=J a0/\W.cell? ⟨b,1,D⟩=J a1:=⟨h.cell 0,h.cell 1⟩
theorem dh.FY {W:L} {b:Nat} {t:U} {a0 a1 a2:O} (h:dh W b #[a0,a1,a2] t):W.cell? ⟨b,0,D⟩=J a0/\W.cell? ⟨b,1,D⟩=J a1/\W.cell? ⟨b,2,D⟩=J a2:=⟨h.cell 0,h.cell 1,h.cell 2⟩
theorem dh.wG {W:L} {b:Nat} {t:U} {a0 a1 a2 a3:O} (h:dh W b #[a0,a1,a2,a3] t):W.cell? ⟨b,0,D⟩=J a0/\W.cell? ⟨b,1,D⟩=J a1/\W.cell? ⟨b,2,D⟩=J a2/\W.cell? ⟨b,3,D⟩=J a3:=⟨h.cell 0,h.cell 1,h.cell 2,h.cell 3⟩
theorem dh.JW {W:L} {b:Nat} {t:U} {a0 a1 a2 a3 a4:O} (h:dh W b #[a0,a1,a2,a3,a4] t):W.cell? ⟨b,0,D⟩=J a0/\W.cell? ⟨b,1,D⟩=J a1/\W.cell? ⟨b,2,D⟩=J a2/\W.cell? ⟨b,3,D⟩=J a3/\W.cell? ⟨b,4,D⟩=J a4:=⟨h.cell 0,h.cell 1,h.cell 2,h.cell 3,h.cell 4⟩
theorem dh.gX {W:L} {b:Nat} {t:U} {a0 a1 a2 a3 a4 a5:O} (h:dh W b #[a0,a1,a2,a3,a4,a5] t):W.cell? ⟨b,0,D⟩=J a0/\W.cell? ⟨b,1,D⟩=J a1/\W.cell? ⟨b,2,D⟩=J a2/\W.cell? ⟨b,3,D⟩=J a3/\W.cell? ⟨b,4,D⟩=J a4/\W.cell? ⟨b,5,D⟩=J a5:=⟨h.cell 0,h.cell 1,h.cell 2,h.cell 3,h.cell 4,h.cell 5⟩
theorem dh.qG {W:L} {b:Nat} {t:U} {a0 a1 a2 a3 a4 a5 a6:O} (h:dh W b #[a0,a1,a2,a3,a4,a5,a6] t):W.cell? ⟨b,0,D⟩=J a0/\W.cell? ⟨b,1,D⟩=J a1/\W.cell? ⟨b,2,D⟩=J a2/\W.cell? ⟨b,3,D⟩=J a3/\W.cell? ⟨b,4,D⟩=J a4/\W.cell? ⟨b,5,D⟩=J a5/\W.cell? ⟨b,6,D⟩=J a6:=⟨h.cell 0,h.cell 1,h.cell 2,h.cell 3,h.cell 4,h.cell 5,h.cell 6⟩
theorem dh.JX {W:L} {b:Nat} {cs:Array O} {t:U} (h:dh W b cs t):W.frozen? ⟨b,0,D⟩=Z/\W.frozen? ⟨b,1,D⟩=Z:=⟨h.fr 0,h.fr 1⟩
theorem dh.Gb {W:L} {b:Nat} {cs:Array O} {t:U} (h:dh W b cs t):W.frozen? ⟨b,0,D⟩=Z/\W.frozen? ⟨b,1,D⟩=Z/\W.frozen? ⟨b,2,D⟩=Z/\W.frozen? ⟨b,3,D⟩=Z:=⟨h.fr 0,h.fr 1,h.fr 2,h.fr 3⟩
theorem dh.qH {W:L} {b:Nat} {cs:Array O} {t:U} (h:dh W b cs t):W.frozen? ⟨b,0,D⟩=Z/\W.frozen? ⟨b,1,D⟩=Z/\W.frozen? ⟨b,2,D⟩=Z/\W.frozen? ⟨b,3,D⟩=Z/\W.frozen? ⟨b,4,D⟩=Z/\W.frozen? ⟨b,5,D⟩=Z:=⟨h.fr 0,h.fr 1,h.fr 2,h.fr 3,h.fr 4,h.fr 5⟩
theorem dh.FZ {W:L} {b:Nat} {cs:Array O} {t:U} (h:dh W b cs t):W.frozen? ⟨b,0,D⟩=Z/\W.frozen? ⟨b,1,D⟩=Z/\W.frozen? ⟨b,2,D⟩=Z/\W.frozen? ⟨b,3,D⟩=Z/\W.frozen? ⟨b,4,D⟩=Z/\W.frozen? ⟨b,5,D⟩=Z/\W.frozen? ⟨b,6,D⟩=Z:=⟨h.fr 0,h.fr 1,h.fr 2,h.fr 3,h.fr 4,h.fr 5,h.fr 6⟩
theorem dh.lt {W:L} {b:Nat} {cs:Array O} {t:U} (h:dh W b cs t):b<W.heap.size:=lt_of_heap h
theorem dh.on {W W':L} {b:Nat} {cs:Array O} {t:U} (h:dh W b cs t) (hb:Below W.heap.size W W'):dh W' b cs t:=by
 have hl:=h.lt;unfold dh at *;rw [hb.block _ hl]; exact h
theorem dh.more {W:L} {b:Nat} {cs:Array O} {t:U} (h:dh W b cs t) (o:Obj):dh (W.alloc o) b cs t:=h.on ((Below.refl _ _).alloc (aj _) _)
theorem dB (W:L) (cs:Array O) (t:U):dh (W.alloc (.cells cs t)) W.heap.size cs t:=by
 unfold dh;show (W.heap.push _)[W.heap.size]?=_;simp
theorem wpList_append_run {P:Program} {ops:Array Oper} {rest:List Oper} {o:Oper} {a:Act} {Q:Exit->Act->L->Prop} {w w':L} (hgd:o.guard=D) (s x:Operand) (t:U)
  (ho:o.op=.call { callee:=.builtin .append,args:=#[s,x],argTypes:=#[t,t] }) {v xv v':O} (hs:a.eval s=v) (hx:a.eval x=xv) (hr:(Builtin.append_ #[t,t] o.type #[v,xv]).run P w=.ok v' w')
  (h:wpList P ops Q rest (a.put o.dst v') w'):wpList P ops Q (o::rest) a w:=by
 refine wpList_plain hgd fun K hK=>?_;unfold Oper.wp execOp;simp only [ho,resolve,invoke,builtin,Sem.run_bind,Sem.run_pure,Result.andThen_ok,List.map_toArray,List.map_cons,List.map_nil,hs,hx,hr];exact hK _ _ h
def dL (k:Nat):Code->Option Code
 | .region id ops d=>if id=k then J (.region id ops d) else D
 | .seq a b=>match dL k a with
  | some c=>J c
  | none=>dL k b
 | .cond _ a b=>match dL k a with
  | some c=>J c
  | none=>dL k b
 | .block _ c=>dL k c
 | .loop c=>dL k c
 | .scope c=>dL k c
 | _=>D
end Go.Proofs.Ytkcfgbddlpomgaa.Rw
