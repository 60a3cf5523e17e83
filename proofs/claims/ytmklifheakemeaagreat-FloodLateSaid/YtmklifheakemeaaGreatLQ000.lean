/-
  Rows of elements of . Conditions as told.
-/
import Derived.Test.YtmklifheakemeaaGreatProg
import Derived.WalkKit
import Derived.ProofKit
import Derived.Laws.AppendOwn
import Derived.Laws.OwnMore
import Derived.Laws.MakeOwn
import Derived.Laws.CopyRow
import Derived.Deep.Slices
import Derived.Deep.CutBlock
import Derived.Deep.Cut
import Derived.Lib.ItoaNum
import GoSem.Claim
import Derived.Laws.Strings
import Derived.RowKit
set_option maxRecDepth 100000
set_option maxHeartbeats 64000000
open _root_.Array renaming length_toList->aI
open _root_.Bool renaming and_eq_true->D,true->ak,false->au,eq_iff_iff->ay,true_and->aF,not_false->aX,false_and->aY,not_true->aZ
open _root_.Go renaming World->V,Value->X,TypeId->Z,Addr->aV,Code->bF
open Go.Instr renaming sliceAt->aM,indexAt->aS
open Go.Op renaming bytesLess->J
open Go.Proofs.Tryz renaming prog->aA
open Go.Value renaming slice->aB,pointer->aW,int->bq
open _root_.Int renaming le_refl->aR
open _root_.List renaming getElem?_eq_some_iff->aj,pairwise_cons->aC,prefix_of_prefix_length_le->aD,mem_cons_of_mem->aH,getElem?_append_right->aJ,mem_cons_self->aK,getElem?_append_left->aL,mem_cons->aN,length_take->aO,take_append_drop->aQ,length_drop->aT
open _root_.Nat renaming le_refl->aG,min_eq_left->aP,add_mul->aU,lt_or_ge->bf,le_trans->bg
open _root_.Option renaming none->L,some->O
open Option.some renaming inj->U
open _root_.Or renaming inr->Y,inl->ah
namespace Go.Proofs.YtmklifheakemeaaGreat
namespace Rw
open Go.RowKit
structure Ek (α:Type) where
 t:Z
 ts:Z
 n:Nat
 bytes:Nat
 z:X
 val:α->X
 cells:α->List X
structure Ek.Ok {α:Type} (E:Ek α):Prop where
 hu:Tryz.prog.underlying E.ts=O (.slice E.t)
 info:∃ i,Tryz.prog.info? E.t=O i/\i.zero=O E.z/\i.size=E.n/\i.bytes=E.bytes
 zs:E.z.cells.size=E.n
 len:∀ x,(E.cells x).length=E.n
 one:∀ x,∀ u∈E.cells x,u.oneCell'=ak
 pos:0<E.n
 few:E.bytes<=100000
 load:∀ (w:V) (p:aV) (x:α),(∀ j u,(E.cells x)[j]?=O u->w.cell? (p.add j)=O u)->(Instr.loadAt E.t (aW (O p))).run aA w=.ok (E.val x) w
variable {α:Type} {E:Ek α}
def flat (E:Ek α):List α->List X
 | []=>[]
 | x::r=>E.cells x++flat E r
theorem gD:∀ a b:List α,flat E (a++b)=flat E a++flat E b
 | [],b=>rfl
 | x::r,b=>by simp [flat,gD r b]
theorem IK (x:α):flat E [x]=E.cells x:=by simp [flat]
theorem dQ (K:E.Ok):∀ l:List α,(flat E l).length=l.length * E.n
 | []=>by simp [flat]
 | x::r=>by simp [flat,dQ K r,K.len x,aU]; omega
theorem mD (K:E.Ok):∀ l:List α,∀ u∈flat E l,u.oneCell'=ak
 | [],u,h=>by cases h
 | x::r,u,h=>by
  simp only [flat,List.mem_append] at h;rcases h with h|h
  ·exact K.one x u h
  ·exact mD K r u h
theorem uH (K:E.Ok):∀ (l:List α) (m:Nat) (x:α),l[m]?=O x->∀ j,j<E.n->(flat E l)[m * E.n+j]?=(E.cells x)[j]?
 | [],m,x,h,_,_=>by simp at h
 | y::r,0,x,h,j,hj=>by
  simp at h;subst h;simp only [flat];rw [Nat.zero_mul,Nat.zero_add,aL (by rw [K.len]; exact hj)]
 | y::r,m+1,x,h,j,hj=>by
  have h2:=uH K r m x (by simpa using h) j hj;simp only [flat];rw [aJ (by rw [K.len,aU]; omega),K.len,show (m+1) * E.n+j-E.n=m * E.n+j by rw [aU]; omega];exact h2
theorem add_add (a:aV) (i j:Nat):(a.add i).add j=a.add (i+j):=by
 unfold Addr.add;by_cases hi:i=0 <;> by_cases hj:j=0 <;> simp [hi,hj,Nat.add_assoc]
theorem add_block (a:aV) (i:Nat):(a.add i).block=a.block:=by unfold Addr.add; split <;> rfl
theorem nC (g j:Nat):(⟨g,0,L⟩:aV).add j=⟨g,j,L⟩:=by unfold Addr.add; split <;> simp_all
theorem add_pos (p:aV) (j:Nat) (h:j≠0):p.add j=⟨p.block,p.off+j,L⟩:=by unfold Addr.add; rw [if_neg h]
theorem add_zero (p:aV):p.add 0=p:=by unfold Addr.add; simp
theorem lt_of_heap {w:V} {b:Nat} {o:Obj} (h:w.heap[b]?=O o):b<w.heap.size:=by
 rcases bf b w.heap.size with h0|h0
 ·exact h0
 ·simp [Array.getElem?_eq_none h0] at h
theorem nD (w:V) (row:Option Nat):w.grownBy w row:=⟨rfl,rfl,rfl,aG _,fun _ _ _=>rfl⟩
def Row (E:Ek α) (W:V) (v:X) (l:List α):Prop :=
 (l=[]/\v=aB L 0 0)\/∃ (a:aV) (cap:Nat),v=aB (O a) l.length cap/\l.length<=cap/\cap<=maxLen/\∀ j u,(flat E l)[j]?=O u->W.cell? (a.add j)=O u
theorem Row.on {W W':V} {v:X} {l:List α} (h:Row E W v l) (hb:Below W.heap.size W W'):Row E W' v l:=by
 rcases h with h|⟨a,cap,h1,h2,h3,h5⟩
 ·exact ah h
 ·exact Y ⟨a,cap,h1,h2,h3,fun j u hj=>by
   have hc:=h5 j u hj;rw [hb.cell (World.block_lt_of_cell? W _ hc)]; exact hc⟩
theorem Row.len {W:V} {v:X} {l:List α} (h:Row E W v l):∃ ao cap,v=aB ao l.length cap:=by
 rcases h with⟨rfl,rfl⟩|⟨a,cap,rfl,_⟩
 ·exact⟨L,0,rfl⟩
 ·exact⟨_,cap,rfl⟩
theorem Row.most {W:V} {v:X} {l:List α} (h:Row E W v l):l.length<=maxLen:=by
 rcases h with⟨rfl,rfl⟩|⟨a,cap,rfl,h1,h2,_⟩
 ·exact Nat.zero_le _
 ·omega
theorem kJ (W:V):Row E W (aB L 0 0) ([]:List α):=ah ⟨rfl,rfl⟩
abbrev Own (E:Ek α) (W:V) (B:Nat) (v:X) (l:List α):Prop:=W.ownsRow B E.t E.n v l.length (flat E l)
theorem Row.dG {W:V} {B:Nat} {v:X} {l:List α} (h:Own E W B v l):Row E W v l:=by
 rcases h.2 with⟨h1,h2⟩|⟨g,cap,cur,h1,h2,h3,h4,h5,h6,h7⟩
 ·exact ah ⟨List.eq_nil_of_length_eq_zero h2,h1⟩
 ·exact Y ⟨⟨g,0,L⟩,cap,h1,h4,h5,fun j u hj=>h.cells (g:=g) (by rw [h1]; rfl) j u hj⟩
theorem dJ {W W':V} {B k:Nat} {e:Z} {v:X} {n:Nat} {xs:List X} (h:W.ownsRow B e k v n xs) (hb:Below W.heap.size W W'):W'.ownsRow B e k v n xs:=by
 refine⟨h.1,?_⟩;rcases h.2 with h2|⟨g,cap,cur,h1,h2,h3,h4⟩
 ·exact ah h2
 ·exact Y ⟨g,cap,cur,h1,h2,by rw [hb.block _ (lt_of_heap h3)]; exact h3,h4⟩
theorem nW {W:V} {B B' k:Nat} {e:Z} {v:X} {n:Nat} {xs:List X} (hB:B'<=B) (h:W.ownsRow B e k v n xs):W.ownsRow B' e k v n xs:=by
 refine⟨h.1,?_⟩;rcases h.2 with h2|⟨g,cap,cur,h1,h2,h3⟩
 ·exact ah h2
 ·exact Y ⟨g,cap,cur,h1,bg hB h2,h3⟩
theorem jg (W:V) (B:Nat):Own E W B (aB L 0 0) ([]:List α):=World.ownsRow_nil _ _ _ _
theorem xW (K:E.Ok) (a:aV) (m len cap:Nat) (h:m<len) (w:V):(aS E.ts (aB (O a) len cap) (bq .i64 m)).run aA w=.ok (aW (O (a.add (m * E.n)))) w:=by
 have h1:(m:Int)<len:=by omega
 obtain⟨i,i1,i2,i3,i4⟩:=K.info;simp [go_sem,K.hu,sizeOf,typeInfo,h1,i1,i3]
theorem jV (K:E.Ok) (g m len cap:Nat) (h:m<len) (w:V):(aS E.ts (aB (O ⟨g,0,L⟩) len cap) (bq .i64 m)).run aA w=.ok (aW (O ⟨g,m * E.n,L⟩)) w:=by
 rw [xW K ⟨g,0,L⟩ m len cap h w,nC]
theorem nE (K:E.Ok) {W:V} {v:X} {l:List α} {ao:Option aV} {n c k:Nat} {x:α} (h:Row E W v l) (hv:v=aB ao n c) (hn:l.length=n) (hk:l[k]?=O x) :
  ∃ p:aV,(∀ w,(aS E.ts (aB ao n c) (bq .i64 k)).run aA w=.ok (aW (O p)) w)/\p.block<W.heap.size/\∀ w,Below W.heap.size W w->∀ j u,(E.cells x)[j]?=O u->w.cell? (p.add j)=O u:=by
 have hlt:=(aj.1 hk).1;rcases h with⟨rfl,_⟩|⟨a,cap,h1,h2,h3,h4⟩
 ·simp at hk
 ·rw [hv] at h1;obtain⟨rfl,rfl,rfl⟩:ao=O a/\n=l.length/\c=cap:=by simpa using h1
  have g:∀ j u,(E.cells x)[j]?=O u->W.cell? ((a.add (k * E.n)).add j)=O u:=fun j u hj=>by
   have hjn:j<E.n:=by have:=(aj.1 hj).1; rw [K.len] at this; exact this
   rw [add_add];exact h4 _ u ((uH K l k x hk j hjn).trans hj)
  have hp:=K.pos;have hb:(a.add (k * E.n)).block<W.heap.size:=by
   obtain⟨u,hu⟩:∃ u,(E.cells x)[0]?=O u:=⟨_,List.getElem?_eq_getElem (by rw [K.len]; exact hp)⟩;have:=World.block_lt_of_cell? W _ (g 0 u hu)
   rwa [add_zero] at this
  exact⟨a.add (k * E.n),fun w=>xW K a k _ _ hlt w,hb,fun w hw j u hj=>by
   rw [hw.cell (by rw [add_block]; exact hb)];exact g j u hj⟩
theorem jc (K:E.Ok) (a:aV) (k len cap:Nat) (h:k<=cap) (w:V):(aM E.ts (aB (O a) len cap) L (O (bq .i64 k)) L).run aA w=.ok (aB (O a) k cap) w:=by
 have h1:(k:Int)<=cap:=by omega
 obtain⟨i,i1,i2,i3,i4⟩:=K.info;simp [go_sem,K.hu,sizeOf,typeInfo,h1,i1,i3]
theorem z8 (K:E.Ok) (a:aV) (k len cap:Nat) (h:k<=len) (w:V):(aM E.ts (aB (O a) len cap) (O (bq .i64 k)) L L).run aA w=.ok (aB (O (if cap=k then a else a.add (k * E.n))) (len-k) (cap-k)) w:=by
 have h1:(k:Int)<=len:=by omega
 obtain⟨i,i1,i2,i3,i4⟩:=K.info;by_cases he:cap=k
 ·subst he;simp [go_sem,K.hu,sizeOf,typeInfo,h1,i1,i3]
 ·simp [go_sem,K.hu,sizeOf,typeInfo,h1,he,i1,i3]
theorem DN (K:E.Ok) {W:V} {v:X} {l:List α} (h:Row E W v l) (k:Nat) (hk:k<=l.length):∃ lo,(∀ w,(aM E.ts v L (O (bq .i64 k)) L).run aA w=.ok lo w)/\Row E W lo (l.take k):=by
 rcases h with⟨rfl,rfl⟩|⟨a,cap,rfl,h2,h3,h4⟩
 ·obtain rfl:k=0:=by simpa using hk
  obtain⟨i,i1,i2,i3,i4⟩:=K.info;exact⟨aB L 0 0,fun w=>by simp [go_sem,K.hu,sizeOf,typeInfo,i1],ah ⟨rfl,rfl⟩⟩
 ·refine⟨_,jc K a k _ _ (by omega),Y ⟨a,cap,by rw [aO,aP hk],by simp; omega,h3,fun j u hj=>h4 j u ?_⟩⟩
  conv=>lhs; rw [<- aQ k l,gD]
  exact aL (aj.1 hj).1 ▸ hj
theorem rU (K:E.Ok) {W:V} {v:X} {l:List α} (h:Row E W v l) (k:Nat) (hk:k<=l.length):∃ hi,(∀ w,(aM E.ts v (O (bq .i64 k)) L L).run aA w=.ok hi w)/\Row E W hi (l.drop k):=by
 rcases h with⟨rfl,rfl⟩|⟨a,cap,rfl,h2,h3,h4⟩
 ·obtain rfl:k=0:=by simpa using hk
  obtain⟨i,i1,i2,i3,i4⟩:=K.info;exact⟨aB L 0 0,fun w=>by simp [go_sem,K.hu,sizeOf,typeInfo,i1],ah ⟨rfl,rfl⟩⟩
 ·refine⟨_,z8 K a k _ _ hk,Y ⟨_,cap-k,by rw [aT],by rw [aT]; omega,by omega,fun j u hj=>?_⟩⟩;have hlt:=(aj.1 hj).1;have hne:(l.drop k)≠[]:=by rintro e; rw [e] at hlt; simp [flat] at hlt
  have hlk:k<l.length:=by
   rcases bf k l.length with h0|h0
   ·exact h0
   ·exact absurd (List.drop_eq_nil_of_le h0) hne
  rw [if_neg (by omega),add_add];refine h4 _ u ?_
  conv=>lhs; rw [<- aQ k l,gD]
  rw [aJ (by rw [dQ K,aO,aP hk]; omega),dQ K,aO,aP hk,show k * E.n+j-k * E.n=j by omega];exact hj
theorem ji (K:E.Ok) {w:V} (B:Nat) {v x:X} {l m:List α} (hown:Own E w B v l) (hx:Row E w x m) (hn:l.length<=1000) (hm:m.length<=1000) (hB:B<=w.heap.size) (ty:Z) :
  ∃ v' w',(Builtin.append_ #[E.ts,E.ts] ty #[v,x]).run aA w=.ok v' w'/\Own E w' B v' (l++m)/\w.grownBy w' v.ownBlock:=by
 obtain⟨i,i1,i2,i3,i4⟩:=K.info;rcases hx with⟨rfl,rfl⟩|⟨ad,c,rfl,h2,h3,h4⟩
 ·exact⟨v,w,run_append_owned_none (P:=aA) (w:=w) B E.ts ty E.t i E.n K.hu i1 v _ _ hown,by simpa using hown,nD _ _⟩
 ·have hf:=K.few;obtain⟨v',w',r1,r2,r3,_⟩:=run_append_own (P:=aA) w B E.ts ty E.t i E.z E.n E.bytes K.hu i1 i2 i3 i4 K.zs K.pos v _ _ hown ad m.length c (flat E m) (dQ K m) h4 (mD K m) (by unfold maxLen; omega)
   (bg (Nat.mul_le_mul (show l.length+m.length<=2000 by omega) hf) (by decide)) hB
  exact⟨v',w',r1,by rw [Own,List.length_append,gD]; exact r2,r3⟩
theorem kK (K:E.Ok) (w:V) (l:List α) (n:Nat) (hn:n=l.length) (hl:l.length<=1000) (cs:Array X) (hcs:cs.toList=flat E l):Own E (w.alloc (.cells cs E.t)) w.heap.size (aB (O ⟨w.heap.size,0,L⟩) n n) l:=by
 subst hn;have hsz:cs.size=l.length * E.n:=by rw [<- dQ K,<- hcs,aI]
 refine⟨dQ K l,Y ⟨w.heap.size,l.length,cs,rfl,aG _,?_,aG _,by unfold maxLen; omega,hsz,?_⟩⟩
 ·show (w.heap.push _)[w.heap.size]?=_;simp
 ·rw [<- hcs,List.take_of_length_le (by rw [aI,hsz]; exact aG _)]
theorem Ku (w:V):Own E (w.alloc (.cells #[] E.t)) w.heap.size (aB (O ⟨w.heap.size,0,L⟩) 0 0) ([]:List α):=by
 have h:=World.ownsRow_made (base:=w.heap.size) (e:=E.t) (size:=E.n) w #[] 0 (aG _) (by decide) (by simp);simpa [Own,flat] using h
def dI (W:V) (b:Nat) (cs:Array X) (t:Z):Prop:=W.heap[b]?=O (.cells cs t (0,0))
theorem dI.cell {W:V} {b:Nat} {cs:Array X} {t:Z} (h:dI W b cs t) (k:Nat):W.cell? ⟨b,k,L⟩=cs[k]?:=by
 unfold dI at h;simp [World.cell?,h]
theorem dI.fr {W:V} {b:Nat} {cs:Array X} {t:Z} (h:dI W b cs t) (k:Nat):W.frozen? ⟨b,k,L⟩=au:=by
 unfold dI at h;simp [World.frozen?,h]
theorem dI.cs2 {W:V} {b:Nat} {t:Z} {a0 a1:X} (h:dI W b #[a0,a1] t):W.cell? ⟨b,0,L⟩=O a0/\W.cell? ⟨b,1,L⟩=O a1:=⟨h.cell 0,h.cell 1⟩
theorem dI.cs3 {W:V} {b:Nat} {t:Z} {a0 a1 a2:X} (h:dI W b #[a0,a1,a2] t):W.cell? ⟨b,0,L⟩=O a0/\W.cell? ⟨b,1,L⟩=O a1/\W.cell? ⟨b,2,L⟩=O a2:=⟨h.cell 0,h.cell 1,h.cell 2⟩
theorem dI.zZ {W:V} {b:Nat} {t:Z} {a0 a1 a2 a3:X} (h:dI W b #[a0,a1,a2,a3] t):W.cell? ⟨b,0,L⟩=O a0/\W.cell? ⟨b,1,L⟩=O a1/\W.cell? ⟨b,2,L⟩=O a2/\W.cell? ⟨b,3,L⟩=O a3:=⟨h.cell 0,h.cell 1,h.cell 2,h.cell 3⟩
theorem dI.cs5 {W:V} {b:Nat} {t:Z} {a0 a1 a2 a3 a4:X} (h:dI W b #[a0,a1,a2,a3,a4] t):W.cell? ⟨b,0,L⟩=O a0/\W.cell? ⟨b,1,L⟩=O a1/\W.cell? ⟨b,2,L⟩=O a2/\W.cell? ⟨b,3,L⟩=O a3/\W.cell? ⟨b,4,L⟩=O a4:=⟨h.cell 0,h.cell 1,h.cell 2,h.cell 3,h.cell 4⟩
theorem dI.gP {W:V} {b:Nat} {t:Z} {a0 a1 a2 a3 a4 a5:X} (h:dI W b #[a0,a1,a2,a3,a4,a5] t):W.cell? ⟨b,0,L⟩=O a0/\W.cell? ⟨b,1,L⟩=O a1/\W.cell? ⟨b,2,L⟩=O a2/\W.cell? ⟨b,3,L⟩=O a3/\W.cell? ⟨b,4,L⟩=O a4/\W.cell? ⟨b,5,L⟩=O a5:=⟨h.cell 0,h.cell 1,h.cell 2,h.cell 3,h.cell 4,h.cell 5⟩
theorem dI.mE {W:V} {b:Nat} {t:Z} {a0 a1 a2 a3 a4 a5 a6:X} (h:dI W b #[a0,a1,a2,a3,a4,a5,a6] t):W.cell? ⟨b,0,L⟩=O a0/\W.cell? ⟨b,1,L⟩=O a1/\W.cell? ⟨b,2,L⟩=O a2/\W.cell? ⟨b,3,L⟩=O a3/\W.cell? ⟨b,4,L⟩=O a4/\W.cell? ⟨b,5,L⟩=O a5/\W.cell? ⟨b,6,L⟩=O a6:=⟨h.cell 0,h.cell 1,h.cell 2,h.cell 3,h.cell 4,h.cell 5,h.cell 6⟩
theorem dI.fs2 {W:V} {b:Nat} {cs:Array X} {t:Z} (h:dI W b cs t):W.frozen? ⟨b,0,L⟩=au/\W.frozen? ⟨b,1,L⟩=au:=⟨h.fr 0,h.fr 1⟩
theorem dI.fs4 {W:V} {b:Nat} {cs:Array X} {t:Z} (h:dI W b cs t):W.frozen? ⟨b,0,L⟩=au/\W.frozen? ⟨b,1,L⟩=au/\W.frozen? ⟨b,2,L⟩=au/\W.frozen? ⟨b,3,L⟩=au:=⟨h.fr 0,h.fr 1,h.fr 2,h.fr 3⟩
theorem dI.pO {W:V} {b:Nat} {cs:Array X} {t:Z} (h:dI W b cs t):W.frozen? ⟨b,0,L⟩=au/\W.frozen? ⟨b,1,L⟩=au/\W.frozen? ⟨b,2,L⟩=au/\W.frozen? ⟨b,3,L⟩=au/\W.frozen? ⟨b,4,L⟩=au/\W.frozen? ⟨b,5,L⟩=au:=⟨h.fr 0,h.fr 1,h.fr 2,h.fr 3,h.fr 4,h.fr 5⟩
theorem dI.RA {W:V} {b:Nat} {cs:Array X} {t:Z} (h:dI W b cs t):W.frozen? ⟨b,0,L⟩=au/\W.frozen? ⟨b,1,L⟩=au/\W.frozen? ⟨b,2,L⟩=au/\W.frozen? ⟨b,3,L⟩=au/\W.frozen? ⟨b,4,L⟩=au/\W.frozen? ⟨b,5,L⟩=au/\W.frozen? ⟨b,6,L⟩=au:=⟨h.fr 0,h.fr 1,h.fr 2,h.fr 3,h.fr 4,h.fr 5,h.fr 6⟩
theorem dI.lt {W:V} {b:Nat} {cs:Array X} {t:Z} (h:dI W b cs t):b<W.heap.size:=lt_of_heap h
theorem dI.on {W W':V} {b:Nat} {cs:Array X} {t:Z} (h:dI W b cs t) (hb:Below W.heap.size W W'):dI W' b cs t:=by
 have hl:=h.lt;unfold dI at *;rw [hb.block _ hl]; exact h
theorem dI.more {W:V} {b:Nat} {cs:Array X} {t:Z} (h:dI W b cs t) (o:Obj):dI (W.alloc o) b cs t:=h.on ((Below.refl _ _).alloc (aG _) _)
theorem dL (W:V) (cs:Array X) (t:Z):dI (W.alloc (.cells cs t)) W.heap.size cs t:=by
 unfold dI;show (W.heap.push _)[W.heap.size]?=_;simp
theorem wpList_append_run {P:Program} {ops:Array Oper} {rest:List Oper} {o:Oper} {a:Act} {Q:Exit->Act->V->Prop} {w w':V} (hgd:o.guard=L) (s x:Operand) (t:Z)
  (ho:o.op=.call { callee:=.builtin .append,args:=#[s,x],argTypes:=#[t,t] }) {v xv v':X} (hs:a.eval s=v) (hx:a.eval x=xv) (hr:(Builtin.append_ #[t,t] o.type #[v,xv]).run P w=.ok v' w')
  (h:wpList P ops Q rest (a.put o.dst v') w'):wpList P ops Q (o::rest) a w:=by
 refine wpList_plain hgd fun K hK=>?_;unfold Oper.wp execOp;simp only [ho,resolve,invoke,builtin,Sem.run_bind,Sem.run_pure,Result.andThen_ok,List.map_toArray,List.map_cons,List.map_nil,hs,hx,hr];exact hK _ _ h
def DT:Nat->bF->bF
 | 0,c=>c
 | k+1,.seq _ b=>DT k b
 | _,c=>c
def jA (k:Nat):bF->Option bF
 | .block id c=>if id=k then O (.block id c) else jA k c
 | .seq a b=>match jA k a with
  | some c=>O c
  | none=>jA k b
 | .cond _ a b=>match jA k a with
  | some c=>O c
  | none=>jA k b
 | .loop c=>jA k c
 | .scope c=>jA k c
 | _=>L
def eT (k:Nat):bF->Option bF
 | .region id ops d=>if id=k then O (.region id ops d) else L
 | .seq a b=>match eT k a with
  | some c=>O c
  | none=>eT k b
 | .cond _ a b=>match eT k a with
  | some c=>O c
  | none=>eT k b
 | .block _ c=>eT k c
 | .loop c=>eT k c
 | .scope c=>eT k c
 | _=>L
end Rw
namespace Xp
/-! ### the order of texts -/
theorem xX:∀ x:List UInt8,J x x=au
 | []=>rfl
 | a::x=>by simp [J,xX x]
theorem zB (a b:UInt8) (x y:List UInt8):J (a::x) (b::y)=ak↔a.toNat<b.toNat\/(a.toNat=b.toNat/\J x y=ak):=by
 simp only [J,Bool.or_eq_true,decide_eq_true_eq,D,beq_iff_eq,UInt8.lt_iff_toNat_lt];constructor
 ·rintro (h|⟨h,k⟩)
  ·exact ah h
  ·exact Y ⟨by rw [h],k⟩
 ·rintro (h|⟨h,k⟩)
  ·exact ah h
  ·exact Y ⟨UInt8.toNat_inj.1 h,k⟩
theorem uT:∀ x y z:List UInt8,J x y=ak->J y z=ak->J x z=ak
 | _,[],_,h,_=>by cases ‹List UInt8› <;> simp [J] at h
 | _,_::_,[],_,k=>by simp [J] at k
 | [],_::_,_::_,_,_=>rfl
 | a::x,b::y,c::z,h,k=>by
  rw [zB] at h k ⊢;rcases h with h|⟨h,h2⟩ <;> rcases k with k|⟨k,k2⟩
  ·exact ah (by omega)
  ·exact ah (by omega)
  ·exact ah (by omega)
  ·exact Y ⟨by omega,uT x y z h2 k2⟩
theorem Aa:∀ x y:List UInt8,J x y=ak\/x=y\/J y x=ak
 | [],[]=>Y (ah rfl)
 | [],_::_=>ah rfl
 | _::_,[]=>Y (Y rfl)
 | a::x,b::y=>by
  rw [zB,zB];rcases Nat.lt_trichotomy a.toNat b.toNat with h|h|h
  ·exact ah (ah h)
  ·rcases Aa x y with k|k|k
   ·exact ah (Y ⟨h,k⟩)
   ·exact Y (ah (by rw [k,UInt8.toNat_inj.1 h]))
   ·exact Y (Y (Y ⟨h.symm,k⟩))
  ·exact Y (Y (ah h))
end Xp
namespace Pu
open Go.RowKit
def uD (c:UInt8):Bool:=decide (97<=c.toNat) && decide (c.toNat<=122)
def kV (s:ByteArray):Bool:=s.data.toList.all uD && (decide (1<=s.size) && decide (s.size<=12))
theorem xY (s:ByteArray) (k:Nat) (h:k<s.size) (hc:uD s[k]=au):kV s=au:=by
 have:s.data.toList.all uD=au:=by
  rw [List.all_eq_false];exact⟨s[k],by rw [Array.mem_toList_iff]; exact Array.getElem_mem h,by rw [hc]; decide⟩
 simp [kV,this]
theorem IL (s:ByteArray) (h:∀ (j:Nat) (hj:j<s.size),uD s[j]=ak):kV s=(decide (1<=s.size) && decide (s.size<=12)):=by
 have:s.data.toList.all uD=ak:=by
  rw [List.all_eq_true];intro c hc;obtain⟨j,hj,rfl⟩:=List.getElem_of_mem hc;exact h j (by rw [aI] at hj; exact hj)
 simp [kV,this]
theorem nX {a b:ByteArray} (h:a.toList=b.toList):a=b:=by
 rw [ByteArray.toList_eq,ByteArray.toList_eq] at h;exact WideShapes.bytes_inj h
theorem Gb {a b:ByteArray} (h:J a.toList b.toList=ak):a≠b:=by
 rintro rfl;rw [Xp.xX] at h; cases h
theorem Ql {a b:ByteArray} (h1:¬ J a.toList b.toList=ak) (h2:a≠b):J b.toList a.toList=ak:=by
 rcases Xp.Aa a.toList b.toList with h|h|h
 ·exact absurd h h1
 ·exact absurd (nX h) h2
 ·exact h
end Pu
namespace Pr
open Go.RowKit Pu
inductive Kd where
 | rg (lo hi:Int)
 | tx (t:ByteArray)
 | pr (t:ByteArray)
abbrev Cn:=ByteArray×Kd
abbrev V3:=Bool×Int×ByteArray
def kN:Kd->Int
 | .rg _ _=>1
 | .tx _=>2
 | .pr _=>3
def iJ:Kd->Int
 | .rg lo _=>lo
 | _=>0
def iK:Kd->Int
 | .rg _ hi=>hi
 | _=>0
def kT:Kd->ByteArray
 | .rg _ _=>⟨#[]⟩
 | .tx t=>t
 | .pr t=>t
def pfx (s t:ByteArray):Bool:=s.data.toList.isPrefixOf t.data.toList
theorem fG (s t:ByteArray):pfx s t=ak↔s.data.toList <+: t.data.toList:=List.isPrefixOf_iff_prefix
theorem kZ (s:ByteArray):pfx s s=ak:=(fG s s).2 (List.prefix_refl _)
def gQ:Kd->Bool
 | .rg lo hi=>decide (lo<=hi)
 | .tx t=>decide (t.size<=12)
 | .pr t=>decide (t.size<12)
def pY (c:Cn):Bool:=kV c.1 && gQ c.2
def dR:Kd->V3->Bool
 | .rg lo hi,v=>!v.1 && (decide (lo<=v.2.1) && decide (v.2.1<=hi))
 | .tx t,v=>v.1 && (v.2.2.data.toList == t.data.toList)
 | .pr t,v=>v.1 && pfx t v.2.2
def eX:Kd->Kd->Option Kd
 | .rg a b,.rg c d=>if max a c<=min b d then O (.rg (max a c) (min b d)) else L
 | .tx s,.tx t=>if s.data.toList=t.data.toList then O (.tx s) else L
 | .tx s,.pr t=>if pfx t s then O (.tx s) else L
 | .pr s,.tx t=>if pfx s t then O (.tx t) else L
 | .pr s,.pr t=>if pfx s t then O (.pr t) else if pfx t s then O (.pr s) else L
 | _,_=>L
theorem mF {s t:ByteArray} (h:s.data.toList=t.data.toList):s=t:=WideShapes.bytes_inj h
theorem IU (a b c:Kd) (ha:gQ a=ak) (hb:gQ b=ak) (h:eX a b=O c):gQ c=ak/\∀ v,dR c v=(dR a v && dR b v):=by
 cases a with
 | rg p q=>cases b with
  | rg r s =>
   simp only [eX] at h
   split at h
   ·rename_i hc
    obtain rfl:=U h;refine⟨by simpa [gQ] using hc,fun v=>?_⟩;obtain⟨t,n,u⟩:=v;cases t <;> simp only [dR,aZ,aX,aY,aF];rw [ay];simp only [D,decide_eq_true_eq];omega
   ·cases h
  | tx t=>simp [eX] at h
  | pr t=>simp [eX] at h
 | tx p=>cases b with
  | rg r s=>simp [eX] at h
  | tx t =>
   simp only [eX] at h
   split at h
   ·rename_i hc
    obtain rfl:=U h;exact⟨ha,fun v=>by simp [dR,hc]⟩
   ·cases h
  | pr t =>
   simp only [eX] at h
   split at h
   ·rename_i hc
    obtain rfl:=U h;refine⟨ha,fun v=>?_⟩;rw [ay];simp only [dR,D,beq_iff_eq];constructor
    ·rintro⟨h1,h2⟩;exact⟨⟨h1,h2⟩,h1,by rw [fG,h2,<- fG]; exact hc⟩
    ·rintro⟨h1,_⟩;exact h1
   ·cases h
 | pr p=>cases b with
  | rg r s=>simp [eX] at h
  | tx t =>
   simp only [eX] at h
   split at h
   ·rename_i hc
    obtain rfl:=U h;refine⟨hb,fun v=>?_⟩;rw [ay];simp only [dR,D,beq_iff_eq];constructor
    ·rintro⟨h1,h2⟩;exact⟨⟨h1,by rw [fG,h2,<- fG]; exact hc⟩,h1,h2⟩
    ·rintro⟨_,h1⟩;exact h1
   ·cases h
  | pr t =>
   simp only [eX] at h
   split at h
   ·rename_i hc
    obtain rfl:=U h;refine⟨hb,fun v=>?_⟩;rw [ay];simp only [dR,D];constructor
    ·rintro⟨h1,h2⟩;exact⟨⟨h1,(fG _ _).2 (((fG _ _).1 hc).trans ((fG _ _).1 h2))⟩,h1,h2⟩
    ·rintro⟨_,h1⟩;exact h1
   ·split at h
    ·rename_i _ hc
     obtain rfl:=U h;refine⟨ha,fun v=>?_⟩;rw [ay];simp only [dR,D];constructor
     ·rintro⟨h1,h2⟩;exact⟨⟨h1,h2⟩,h1,(fG _ _).2 (((fG _ _).1 hc).trans ((fG _ _).1 h2))⟩
     ·rintro⟨h1,_⟩;exact h1
    ·cases h
theorem IW (a b:Kd) (h:eX a b=L) (v:V3):(dR a v && dR b v)=au:=by
 obtain⟨w,n,u⟩:=v;rw [Bool.eq_false_iff];intro hv;rw [D] at hv;obtain⟨h1,h2⟩:=hv;cases a with
 | rg p q=>cases b with
  | rg r s =>
   simp only [eX] at h
   split at h
   ·cases h
   ·rename_i hc
    simp only [dR,D,decide_eq_true_eq] at h1 h2;omega
  | tx t=>simp only [dR,D] at h1 h2; rw [h2.1] at h1; cases h1.1
  | pr t=>simp only [dR,D] at h1 h2; rw [h2.1] at h1; cases h1.1
 | tx p=>cases b with
  | rg r s=>simp only [dR,D] at h1 h2; rw [h1.1] at h2; cases h2.1
  | tx t =>
   simp only [dR,D,beq_iff_eq] at h1 h2;simp only [eX] at h;rw [if_pos (h1.2.symm.trans h2.2)] at h;cases h
  | pr t =>
   simp only [dR,D,beq_iff_eq] at h1 h2;simp only [eX] at h;rw [if_pos (by rw [fG,<- h1.2,<- fG]; exact h2.2)] at h;cases h
 | pr p=>cases b with
  | rg r s=>simp only [dR,D] at h1 h2; rw [h1.1] at h2; cases h2.1
  | tx t =>
   simp only [dR,D,beq_iff_eq] at h1 h2;simp only [eX] at h;rw [if_pos (by rw [fG,<- h2.2,<- fG]; exact h1.2)] at h;cases h
  | pr t =>
   simp only [dR,D] at h1 h2;have e1:=(fG _ _).1 h1.2;have e2:=(fG _ _).1 h2.2;simp only [eX] at h;rcases Nat.le_total p.data.toList.length t.data.toList.length with hl|hl
   ·rw [if_pos ((fG _ _).2 (aD e1 e2 hl))] at h;cases h
   ·by_cases hp:pfx p t=ak
    ·rw [if_pos hp] at h; cases h
    ·rw [if_neg hp,if_pos ((fG _ _).2 (aD e2 e1 hl))] at h;cases h
theorem DU (a:Kd) (h:gQ a=ak):∃ v,dR a v=ak:=by
 cases a with
 | rg lo hi =>
  simp only [gQ,decide_eq_true_eq] at h;exact⟨(au,lo,⟨#[]⟩),by simp [dR,h]⟩
 | tx t=>exact⟨(ak,0,t),by simp [dR]⟩
 | pr t=>exact⟨(ak,0,t),by simp only [dR,aF]; exact kZ t⟩
theorem jM (t s:ByteArray):dR (.pr t) (ak,0,s)=pfx t s:=by simp only [dR,aF]
theorem kL (t s:ByteArray):dR (.tx t) (ak,0,s)=(s.data.toList == t.data.toList):=by simp only [dR,aF]
theorem oO (a b:Int) (s:ByteArray):dR (.rg a b) (ak,0,s)=au:=by simp only [dR,aZ,aY]
theorem uU (a b n:Int):dR (.rg a b) (au,n,⟨#[]⟩)=(decide (a<=n) && decide (n<=b)):=by simp only [dR,aX,aF]
def more (t:ByteArray):ByteArray:=⟨(t.data.toList++[0]).toArray⟩
theorem Ab (t:ByteArray):pfx t (more t)=ak:=(fG _ _).2 (List.prefix_append _ _)
theorem xZ (p t:ByteArray) (h:∀ v,dR (.tx p) v=dR (.pr t) v):False:=by
 have h1:=h (ak,0,more t);have h2:=h (ak,0,t);rw [kL,jM,Ab,beq_iff_eq] at h1;rw [kL,jM,kZ,beq_iff_eq] at h2;rw [<- h2] at h1;have h3:=congrArg List.length h1;simp [more] at h3
theorem DV (a b:Kd) (ha:gQ a=ak) (hb:gQ b=ak) (h:∀ v,dR a v=dR b v):a=b:=by
 cases a with
 | rg p q=>cases b with
  | rg r s =>
   simp only [gQ,decide_eq_true_eq] at ha hb;have le:∀ n,(p<=n/\n<=q)↔(r<=n/\n<=s):=fun n=>by
    have h1:=h (au,n,⟨#[]⟩);rw [uU,uU,ay,D,D,decide_eq_true_eq,decide_eq_true_eq,decide_eq_true_eq,decide_eq_true_eq] at h1;exact h1
   have h1:=(le p).1 ⟨aR _,ha⟩;have h2:=(le q).1 ⟨ha,aR _⟩;have h3:=(le r).2 ⟨aR _,hb⟩;have h4:=(le s).2 ⟨hb,aR _⟩;rw [show p=r by omega,show q=s by omega]
  | tx t=>have h1:=h (ak,0,t); rw [oO,kL,beq_self_eq_true] at h1; cases h1
  | pr t=>have h1:=h (ak,0,t); rw [oO,jM,kZ] at h1; cases h1
 | tx p=>cases b with
  | rg r s=>have h1:=h (ak,0,p); rw [oO,kL,beq_self_eq_true] at h1; cases h1
  | tx t =>
   have h1:=h (ak,0,p);rw [kL,kL,beq_self_eq_true] at h1;rw [mF (beq_iff_eq.1 h1.symm)]
  | pr t=>exact (xZ p t h).elim
 | pr p=>cases b with
  | rg r s=>have h1:=h (ak,0,p); rw [oO,jM,kZ] at h1; cases h1
  | tx t=>exact (xZ t p fun v=>(h v).symm).elim
  | pr t =>
   have h1:=h (ak,0,p);have h2:=h (ak,0,t);rw [jM,jM,kZ] at h1 h2;have e1:=(fG _ _).1 h1.symm;have e2:=(fG _ _).1 h2;rw [mF (e2.eq_of_length_le e1.length_le)]
/-! ### normal forms -/
def iP (l:List Cn):Prop:=l.Pairwise fun x y=>J x.1.toList y.1.toList=ak
def lg:List Cn->Cn->Option (List Cn)
 | [],c=>O [c]
 | x::r,c=>if J x.1.toList c.1.toList=ak then (lg r c).map (x::·) else if x.1=c.1 then (eX x.2 c.2).map (fun k=>(x.1,k)::r) else O (c::x::r)
def iW:Nat->List Cn->List Cn->Except (Int×Nat) (List Cn)
 | _,m,[]=>.ok m
 | at_,m,c::r=>match lg m c with
  | none=>.error (5,at_)
  | some m'=>if 5<m'.length then .error (7,at_) else iW (at_+1) m' r
def uV (l:List Cn):Except (Int×Nat) (List Cn):=iW 0 [] l
theorem zC:∀ (m:List Cn) (c:Cn),(∀ x∈m,J x.1.toList c.1.toList=ak)->lg m c=O (m++[c])
 | [],c,_=>rfl
 | x::r,c,h=>by
  simp only [lg];rw [if_pos (h x (aK ..)),zC r c (fun y hy=>h y (aH _ hy))]
  rfl
theorem Ac:∀ (p m:List Cn) (at_:Nat),iP (m++p)->(m++p).length<=5->iW at_ m p=.ok (m++p)
 | [],m,at_,_,_=>by simp [iW]
 | c::r,m,at_,h,h5=>by
  have h1:∀ x∈m,J x.1.toList c.1.toList=ak:=fun x hx=>(List.pairwise_append.1 h).2.2 x hx c (aK ..);simp only [iW];rw [zC m c h1];simp only;rw [if_neg (by simp at h5 ⊢; omega),Ac r (m++[c]) (at_+1) (by simpa using h) (by simpa using h5)];simp
theorem IY (p:List Cn) (h:iP p) (h5:p.length<=5):uV p=.ok p:=by
 have:=Ac p [] 0 (by simpa using h) (by simpa using h5);simpa [uV] using this
theorem tq:∀ (a b m m':List Cn) (at_:Nat),iW at_ m a=.ok m'->iW at_ m (a++b)=iW (at_+a.length) m' b
 | [],b,m,m',at_,h=>by
  simp only [iW] at h;injection h with h
  subst h;simp
 | c::r,b,m,m',at_,h=>by
  simp only [List.cons_append,iW] at h ⊢;cases hi:lg m c with
  | none=>rw [hi] at h; cases h
  | some n =>
   rw [hi] at h;simp only at h ⊢
   split at h
   ·cases h
   ·rename_i hn
    rw [if_neg hn,tq r b n m' (at_+1) h];rw [List.length_cons,show at_+1+r.length=at_+(r.length+1) by omega]
theorem jq:∀ (m:List Cn) (c:Cn) (m':List Cn),iP m->lg m c=O m'->iP m'/\∀ y∈m',y.1=c.1\/∃ x∈m,x.1=y.1
 | [],c,m',_,h=>by
  obtain rfl:=U h;exact⟨List.pairwise_singleton _ _,fun y hy=>ah (by simp at hy; rw [hy])⟩
 | x::r,c,m',hr,h=>by
  obtain⟨h1,h2⟩:=aC.1 hr;simp only [lg] at h
  split at h
  ·rename_i hl
   cases hi:lg r c with
   | none=>rw [hi] at h; cases h
   | some n =>
    rw [hi] at h;obtain rfl:=U h;obtain⟨k1,k2⟩:=jq r c n h2 hi;refine⟨aC.2 ⟨fun y hy=>?_,k1⟩,fun y hy=>?_⟩
    ·rcases k2 y hy with e|⟨z,hz,e⟩
     ·rw [e]; exact hl
     ·rw [<- e]; exact h1 z hz
    ·rcases aN.1 hy with rfl|hy
     ·exact Y ⟨y,aK ..,rfl⟩
     ·rcases k2 y hy with e|⟨z,hz,e⟩
      ·exact ah e
      ·exact Y ⟨z,aH _ hz,e⟩
  ·rename_i hl
   split at h
   ·rename_i he
    cases hb:eX x.2 c.2 with
    | none=>rw [hb] at h; cases h
    | some k =>
     rw [hb] at h;obtain rfl:=U h;refine⟨aC.2 ⟨fun y hy=>h1 y hy,h2⟩,fun y hy=>?_⟩;rcases aN.1 hy with rfl|hy
     ·exact ah he
     ·exact Y ⟨y,aH _ hy,rfl⟩
   ·rename_i he
    obtain rfl:=U h;have hc:J c.1.toList x.1.toList=ak:=Ql hl he;refine⟨aC.2 ⟨fun y hy=>?_,hr⟩,fun y hy=>?_⟩
    ·rcases aN.1 hy with rfl|hy
     ·exact hc
     ·exact Xp.uT _ _ _ hc (h1 y hy)
    ·rcases aN.1 hy with rfl|hy
     ·exact ah rfl
     ·exact Y ⟨y,hy,rfl⟩
/-! ### what they say -/
end Pr
end Go.Proofs.YtmklifheakemeaaGreat
