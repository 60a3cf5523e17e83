/-
  Rows of elements of . Conditions as told.
-/
import Derived.Test.YtmklifheakemeaaProg
import Derived.WalkKit
import Derived.ProofKit
import Derived.Laws.AppendOwn
import Derived.Laws.OwnMore
import Derived.Laws.MakeOwn
import Derived.Laws.CopyRow
import Derived.Deep.Slices
import Derived.Deep.CutBlock
import Derived.Deep.Cut
import Derived.Lib.AppendZerosOnto
import Derived.Lib.Overlaps
import Derived.Deep.RegionLaw
import Derived.Laws.Externs
set_option maxRecDepth 100000
set_option maxHeartbeats 64000000
open _root_.Array renaming length_toList->aB
open _root_.Bool renaming false->aJ,true->bU
open _root_.Go renaming World->J,Value->U,TypeId->X,Operand->aW,Addr->bI,Act->bV
open Go.Builtin renaming copy_->aD,append_->aH,firstCells->bH,zeroCells->bL
open Go.Instr renaming sliceAt->aM,indexAt->bF,loadAt->bQ
open Go.IntKind renaming i64->aR
open Go.Oper renaming wp->aX
open Go.Proofs.Try renaming prog->Z
open Go.Region renaming wanted->ak
open Go.Result renaming andThen_ok->aK
open Go.Sem renaming run_bind->aY,run_pure->aZ
open Go.Value renaming slice->ah,int->aU,pointer->bJ
open _root_.List renaming length_take->Y,append_assoc->aj,length_drop->au,length_append->ay,getElem?_eq_some_iff->aA,take_append_drop->aF,size_toArray->aG,take_of_length_le->aI,map_toArray->aL,eq_nil_of_length_eq_zero->aN,getElem?_append_right->aO,getElem?_take->aP,getElem?_append_left->aQ,map_cons->aT,map_nil->bf,drop_of_length_le->bg,take_left'->bM,take_left->bO,take_take->bP
open _root_.Nat renaming mul_le_mul_right->D,min_eq_left->V,add_mul->aC,le_refl->aS,le_trans->aV,mul_le_mul->bA,add_zero->bK,lt_or_ge->bR,le_total->bS
open _root_.Option renaming none->L,some->O
open _root_.Or renaming inr->bq,inl->bG
namespace Go.Proofs.Ytmklifheakemeaa
namespace Rw
open Go.RowKit
structure Ek (α:Type) where
 t:X
 ts:X
 n:Nat
 bytes:Nat
 z:U
 val:α->U
 cells:α->List U
structure Ek.Ok {α:Type} (E:Ek α):Prop where
 hu:Try.prog.underlying E.ts=O (.slice E.t)
 info:∃ i,Try.prog.info? E.t=O i/\i.zero=O E.z/\i.size=E.n/\i.bytes=E.bytes
 zs:E.z.cells.size=E.n
 len:∀ x,(E.cells x).length=E.n
 one:∀ x,∀ u∈E.cells x,u.oneCell'=bU
 pos:0<E.n
 few:E.bytes<=100000
 load:∀ (w:J) (p:bI) (x:α),(∀ j u,(E.cells x)[j]?=O u->w.cell? (p.add j)=O u)->(bQ E.t (bJ (O p))).run Z w=.ok (E.val x) w
variable {α:Type} {E:Ek α}
def flat (E:Ek α):List α->List U
 | []=>[]
 | x::r=>E.cells x++flat E r
theorem eP:∀ a b:List α,flat E (a++b)=flat E a++flat E b
 | [],b=>rfl
 | x::r,b=>by simp [flat,eP r b]
theorem yB (x:α):flat E [x]=E.cells x:=by simp [flat]
theorem dx (K:E.Ok):∀ l:List α,(flat E l).length=l.length * E.n
 | []=>by simp [flat]
 | x::r=>by simp [flat,dx K r,K.len x,aC]; omega
theorem jH (K:E.Ok):∀ l:List α,∀ u∈flat E l,u.oneCell'=bU
 | [],u,h=>by cases h
 | x::r,u,h=>by
  simp only [flat,List.mem_append] at h;rcases h with h|h
  ·exact K.one x u h
  ·exact jH K r u h
theorem xw (K:E.Ok):∀ (l:List α) (m:Nat) (x:α),l[m]?=O x->∀ j,j<E.n->(flat E l)[m * E.n+j]?=(E.cells x)[j]?
 | [],m,x,h,_,_=>by simp at h
 | y::r,0,x,h,j,hj=>by
  simp at h;subst h;simp only [flat];rw [Nat.zero_mul,Nat.zero_add,aQ (by rw [K.len]; exact hj)]
 | y::r,m+1,x,h,j,hj=>by
  have h2:=xw K r m x (by simpa using h) j hj;simp only [flat];rw [aO (by rw [K.len,aC]; omega),K.len,show (m+1) * E.n+j-E.n=m * E.n+j by rw [aC]; omega];exact h2
theorem add_add (a:bI) (i j:Nat):(a.add i).add j=a.add (i+j):=by
 unfold Addr.add;by_cases hi:i=0 <;> by_cases hj:j=0 <;> simp [hi,hj,Nat.add_assoc]
theorem add_block (a:bI) (i:Nat):(a.add i).block=a.block:=by unfold Addr.add; split <;> rfl
theorem jS (g j:Nat):(⟨g,0,L⟩:bI).add j=⟨g,j,L⟩:=by unfold Addr.add; split <;> simp_all
theorem add_pos (p:bI) (j:Nat) (h:j≠0):p.add j=⟨p.block,p.off+j,L⟩:=by unfold Addr.add; rw [if_neg h]
theorem add_zero (p:bI):p.add 0=p:=by unfold Addr.add; simp
theorem lt_of_heap {w:J} {b:Nat} {o:Obj} (h:w.heap[b]?=O o):b<w.heap.size:=by
 rcases bR b w.heap.size with h0|h0
 ·exact h0
 ·simp [Array.getElem?_eq_none h0] at h
theorem mh (w:J) (row:Option Nat):w.grownBy w row:=⟨rfl,rfl,rfl,aS _,fun _ _ _=>rfl⟩
def Row (E:Ek α) (W:J) (v:U) (l:List α):Prop :=
 (l=[]/\v=ah L 0 0)\/∃ (a:bI) (cap:Nat),v=ah (O a) l.length cap/\l.length<=cap/\cap<=maxLen/\∀ j u,(flat E l)[j]?=O u->W.cell? (a.add j)=O u
theorem Row.on {W W':J} {v:U} {l:List α} (h:Row E W v l) (hb:Below W.heap.size W W'):Row E W' v l:=by
 rcases h with h|⟨a,cap,h1,h2,h3,h5⟩
 ·exact bG h
 ·exact bq ⟨a,cap,h1,h2,h3,fun j u hj=>by
   have hc:=h5 j u hj;rw [hb.cell (World.block_lt_of_cell? W _ hc)]; exact hc⟩
theorem Row.len {W:J} {v:U} {l:List α} (h:Row E W v l):∃ ao cap,v=ah ao l.length cap:=by
 rcases h with⟨rfl,rfl⟩|⟨a,cap,rfl,_⟩
 ·exact⟨L,0,rfl⟩
 ·exact⟨_,cap,rfl⟩
theorem Row.most {W:J} {v:U} {l:List α} (h:Row E W v l):l.length<=maxLen:=by
 rcases h with⟨rfl,rfl⟩|⟨a,cap,rfl,h1,h2,_⟩
 ·exact Nat.zero_le _
 ·omega
theorem iK (W:J):Row E W (ah L 0 0) ([]:List α):=bG ⟨rfl,rfl⟩
abbrev Own (E:Ek α) (W:J) (B:Nat) (v:U) (l:List α):Prop:=W.ownsRow B E.t E.n v l.length (flat E l)
theorem Row.dG {W:J} {B:Nat} {v:U} {l:List α} (h:Own E W B v l):Row E W v l:=by
 rcases h.2 with⟨h1,h2⟩|⟨g,cap,cur,h1,h2,h3,h4,h5,h6,h7⟩
 ·exact bG ⟨aN h2,h1⟩
 ·exact bq ⟨⟨g,0,L⟩,cap,h1,h4,h5,fun j u hj=>h.cells (g:=g) (by rw [h1]; rfl) j u hj⟩
theorem dB {W W':J} {B k:Nat} {e:X} {v:U} {n:Nat} {xs:List U} (h:W.ownsRow B e k v n xs) (hb:Below W.heap.size W W'):W'.ownsRow B e k v n xs:=by
 refine⟨h.1,?_⟩;rcases h.2 with h2|⟨g,cap,cur,h1,h2,h3,h4⟩
 ·exact bG h2
 ·exact bq ⟨g,cap,cur,h1,h2,by rw [hb.block _ (lt_of_heap h3)]; exact h3,h4⟩
theorem Aj {W:J} {B B' k:Nat} {e:X} {v:U} {n:Nat} {xs:List U} (hB:B'<=B) (h:W.ownsRow B e k v n xs):W.ownsRow B' e k v n xs:=by
 refine⟨h.1,?_⟩;rcases h.2 with h2|⟨g,cap,cur,h1,h2,h3⟩
 ·exact bG h2
 ·exact bq ⟨g,cap,cur,h1,aV hB h2,h3⟩
theorem gX (W:J) (B:Nat):Own E W B (ah L 0 0) ([]:List α):=World.ownsRow_nil _ _ _ _
theorem nC (K:E.Ok) (a:bI) (m len cap:Nat) (h:m<len) (w:J):(bF E.ts (ah (O a) len cap) (aU aR m)).run Z w=.ok (bJ (O (a.add (m * E.n)))) w:=by
 have h1:(m:Int)<len:=by omega
 obtain⟨i,i1,i2,i3,i4⟩:=K.info;simp [go_sem,K.hu,sizeOf,typeInfo,h1,i1,i3]
theorem kX (K:E.Ok) (g m len cap:Nat) (h:m<len) (w:J):(bF E.ts (ah (O ⟨g,0,L⟩) len cap) (aU aR m)).run Z w=.ok (bJ (O ⟨g,m * E.n,L⟩)) w:=by
 rw [nC K ⟨g,0,L⟩ m len cap h w,jS]
theorem kD (K:E.Ok) {W:J} {v:U} {l:List α} {ao:Option bI} {n c k:Nat} {x:α} (h:Row E W v l) (hv:v=ah ao n c) (hn:l.length=n) (hk:l[k]?=O x) :
  ∃ p:bI,(∀ w,(bF E.ts (ah ao n c) (aU aR k)).run Z w=.ok (bJ (O p)) w)/\p.block<W.heap.size/\∀ w,Below W.heap.size W w->∀ j u,(E.cells x)[j]?=O u->w.cell? (p.add j)=O u:=by
 have hlt:=(aA.1 hk).1;rcases h with⟨rfl,_⟩|⟨a,cap,h1,h2,h3,h4⟩
 ·simp at hk
 ·rw [hv] at h1;obtain⟨rfl,rfl,rfl⟩:ao=O a/\n=l.length/\c=cap:=by simpa using h1
  have g:∀ j u,(E.cells x)[j]?=O u->W.cell? ((a.add (k * E.n)).add j)=O u:=fun j u hj=>by
   have hjn:j<E.n:=by have:=(aA.1 hj).1; rw [K.len] at this; exact this
   rw [add_add];exact h4 _ u ((xw K l k x hk j hjn).trans hj)
  have hp:=K.pos;have hb:(a.add (k * E.n)).block<W.heap.size:=by
   obtain⟨u,hu⟩:∃ u,(E.cells x)[0]?=O u:=⟨_,List.getElem?_eq_getElem (by rw [K.len]; exact hp)⟩;have:=World.block_lt_of_cell? W _ (g 0 u hu)
   rwa [add_zero] at this
  exact⟨a.add (k * E.n),fun w=>nC K a k _ _ hlt w,hb,fun w hw j u hj=>by
   rw [hw.cell (by rw [add_block]; exact hb)];exact g j u hj⟩
theorem iU (K:E.Ok) (a:bI) (k len cap:Nat) (h:k<=cap) (w:J):(aM E.ts (ah (O a) len cap) L (O (aU aR k)) L).run Z w=.ok (ah (O a) k cap) w:=by
 have h1:(k:Int)<=cap:=by omega
 obtain⟨i,i1,i2,i3,i4⟩:=K.info;simp [go_sem,K.hu,sizeOf,typeInfo,h1,i1,i3]
theorem oI (K:E.Ok) (a:bI) (k len cap:Nat) (h:k<=len) (w:J):(aM E.ts (ah (O a) len cap) (O (aU aR k)) L L).run Z w=.ok (ah (O (if cap=k then a else a.add (k * E.n))) (len-k) (cap-k)) w:=by
 have h1:(k:Int)<=len:=by omega
 obtain⟨i,i1,i2,i3,i4⟩:=K.info;by_cases he:cap=k
 ·subst he;simp [go_sem,K.hu,sizeOf,typeInfo,h1,i1,i3]
 ·simp [go_sem,K.hu,sizeOf,typeInfo,h1,he,i1,i3]
theorem Ja (K:E.Ok) {W:J} {v:U} {l:List α} (h:Row E W v l) (k:Nat) (hk:k<=l.length):∃ lo,(∀ w,(aM E.ts v L (O (aU aR k)) L).run Z w=.ok lo w)/\Row E W lo (l.take k):=by
 rcases h with⟨rfl,rfl⟩|⟨a,cap,rfl,h2,h3,h4⟩
 ·obtain rfl:k=0:=by simpa using hk
  obtain⟨i,i1,i2,i3,i4⟩:=K.info;exact⟨ah L 0 0,fun w=>by simp [go_sem,K.hu,sizeOf,typeInfo,i1],bG ⟨rfl,rfl⟩⟩
 ·refine⟨_,iU K a k _ _ (by omega),bq ⟨a,cap,by rw [Y,V hk],by simp; omega,h3,fun j u hj=>h4 j u ?_⟩⟩
  conv=>lhs; rw [<- aF k l,eP]
  exact aQ (aA.1 hj).1 ▸ hj
theorem sK (K:E.Ok) {W:J} {v:U} {l:List α} (h:Row E W v l) (k:Nat) (hk:k<=l.length):∃ hi,(∀ w,(aM E.ts v (O (aU aR k)) L L).run Z w=.ok hi w)/\Row E W hi (l.drop k):=by
 rcases h with⟨rfl,rfl⟩|⟨a,cap,rfl,h2,h3,h4⟩
 ·obtain rfl:k=0:=by simpa using hk
  obtain⟨i,i1,i2,i3,i4⟩:=K.info;exact⟨ah L 0 0,fun w=>by simp [go_sem,K.hu,sizeOf,typeInfo,i1],bG ⟨rfl,rfl⟩⟩
 ·refine⟨_,oI K a k _ _ hk,bq ⟨_,cap-k,by rw [au],by rw [au]; omega,by omega,fun j u hj=>?_⟩⟩;have hlt:=(aA.1 hj).1;have hne:(l.drop k)≠[]:=by rintro e; rw [e] at hlt; simp [flat] at hlt
  have hlk:k<l.length:=by
   rcases bR k l.length with h0|h0
   ·exact h0
   ·exact absurd (List.drop_eq_nil_of_le h0) hne
  rw [if_neg (by omega),add_add];refine h4 _ u ?_
  conv=>lhs; rw [<- aF k l,eP]
  rw [aO (by rw [dx K,Y,V hk]; omega),dx K,Y,V hk,show k * E.n+j-k * E.n=j by omega];exact hj
theorem jg (K:E.Ok) {w:J} (B:Nat) {v x:U} {l m:List α} (hown:Own E w B v l) (hx:Row E w x m) (hn:l.length<=1000) (hm:m.length<=1000) (hB:B<=w.heap.size) (ty:X) :
  ∃ v' w',(aH #[E.ts,E.ts] ty #[v,x]).run Z w=.ok v' w'/\Own E w' B v' (l++m)/\w.grownBy w' v.ownBlock:=by
 obtain⟨i,i1,i2,i3,i4⟩:=K.info;rcases hx with⟨rfl,rfl⟩|⟨ad,c,rfl,h2,h3,h4⟩
 ·exact⟨v,w,run_append_owned_none (P:=Z) (w:=w) B E.ts ty E.t i E.n K.hu i1 v _ _ hown,by simpa using hown,mh _ _⟩
 ·have hf:=K.few;obtain⟨v',w',r1,r2,r3,_⟩:=run_append_own (P:=Z) w B E.ts ty E.t i E.z E.n E.bytes K.hu i1 i2 i3 i4 K.zs K.pos v _ _ hown ad m.length c (flat E m) (dx K m) h4 (jH K m) (by unfold maxLen; omega)
   (aV (bA (show l.length+m.length<=2000 by omega) hf) (by decide)) hB
  exact⟨v',w',r1,by rw [Own,ay,eP]; exact r2,r3⟩
theorem jw (K:E.Ok) (w:J) (l:List α) (n:Nat) (hn:n=l.length) (hl:l.length<=1000) (cs:Array U) (hcs:cs.toList=flat E l):Own E (w.alloc (.cells cs E.t)) w.heap.size (ah (O ⟨w.heap.size,0,L⟩) n n) l:=by
 subst hn;have hsz:cs.size=l.length * E.n:=by rw [<- dx K,<- hcs,aB]
 refine⟨dx K l,bq ⟨w.heap.size,l.length,cs,rfl,aS _,?_,aS _,by unfold maxLen; omega,hsz,?_⟩⟩
 ·show (w.heap.push _)[w.heap.size]?=_;simp
 ·rw [<- hcs,aI (by rw [aB,hsz]; exact aS _)]
def dz (W:J) (b:Nat) (cs:Array U) (t:X):Prop:=W.heap[b]?=O (.cells cs t (0,0))
theorem dz.cell {W:J} {b:Nat} {cs:Array U} {t:X} (h:dz W b cs t) (k:Nat):W.cell? ⟨b,k,L⟩=cs[k]?:=by
 unfold dz at h;simp [World.cell?,h]
theorem dz.fr {W:J} {b:Nat} {cs:Array U} {t:X} (h:dz W b cs t) (k:Nat):W.frozen? ⟨b,k,L⟩=aJ:=by
 unfold dz at h;simp [World.frozen?,h]
theorem dz.cs2 {W:J} {b:Nat} {t:X} {a0 a1:U} (h:dz W b #[a0,a1] t):W.cell? ⟨b,0,L⟩=O a0/\W.cell? ⟨b,1,L⟩=O a1:=⟨h.cell 0,h.cell 1⟩
theorem dz.TY {W:J} {b:Nat} {t:X} {a0 a1 a2:U} (h:dz W b #[a0,a1,a2] t):W.cell? ⟨b,0,L⟩=O a0/\W.cell? ⟨b,1,L⟩=O a1/\W.cell? ⟨b,2,L⟩=O a2:=⟨h.cell 0,h.cell 1,h.cell 2⟩
theorem dz.Ak {W:J} {b:Nat} {t:X} {a0 a1 a2 a3:U} (h:dz W b #[a0,a1,a2,a3] t):W.cell? ⟨b,0,L⟩=O a0/\W.cell? ⟨b,1,L⟩=O a1/\W.cell? ⟨b,2,L⟩=O a2/\W.cell? ⟨b,3,L⟩=O a3:=⟨h.cell 0,h.cell 1,h.cell 2,h.cell 3⟩
theorem dz.T9 {W:J} {b:Nat} {t:X} {a0 a1 a2 a3 a4:U} (h:dz W b #[a0,a1,a2,a3,a4] t):W.cell? ⟨b,0,L⟩=O a0/\W.cell? ⟨b,1,L⟩=O a1/\W.cell? ⟨b,2,L⟩=O a2/\W.cell? ⟨b,3,L⟩=O a3/\W.cell? ⟨b,4,L⟩=O a4:=⟨h.cell 0,h.cell 1,h.cell 2,h.cell 3,h.cell 4⟩
theorem dz.gZ {W:J} {b:Nat} {t:X} {a0 a1 a2 a3 a4 a5:U} (h:dz W b #[a0,a1,a2,a3,a4,a5] t):W.cell? ⟨b,0,L⟩=O a0/\W.cell? ⟨b,1,L⟩=O a1/\W.cell? ⟨b,2,L⟩=O a2/\W.cell? ⟨b,3,L⟩=O a3/\W.cell? ⟨b,4,L⟩=O a4/\W.cell? ⟨b,5,L⟩=O a5:=⟨h.cell 0,h.cell 1,h.cell 2,h.cell 3,h.cell 4,h.cell 5⟩
theorem dz.qx {W:J} {b:Nat} {t:X} {a0 a1 a2 a3 a4 a5 a6:U} (h:dz W b #[a0,a1,a2,a3,a4,a5,a6] t):W.cell? ⟨b,0,L⟩=O a0/\W.cell? ⟨b,1,L⟩=O a1/\W.cell? ⟨b,2,L⟩=O a2/\W.cell? ⟨b,3,L⟩=O a3/\W.cell? ⟨b,4,L⟩=O a4/\W.cell? ⟨b,5,L⟩=O a5/\W.cell? ⟨b,6,L⟩=O a6:=⟨h.cell 0,h.cell 1,h.cell 2,h.cell 3,h.cell 4,h.cell 5,h.cell 6⟩
theorem dz.Ua {W:J} {b:Nat} {cs:Array U} {t:X} (h:dz W b cs t):W.frozen? ⟨b,0,L⟩=aJ/\W.frozen? ⟨b,1,L⟩=aJ:=⟨h.fr 0,h.fr 1⟩
theorem dz.Nw {W:J} {b:Nat} {cs:Array U} {t:X} (h:dz W b cs t):W.frozen? ⟨b,0,L⟩=aJ/\W.frozen? ⟨b,1,L⟩=aJ/\W.frozen? ⟨b,2,L⟩=aJ/\W.frozen? ⟨b,3,L⟩=aJ:=⟨h.fr 0,h.fr 1,h.fr 2,h.fr 3⟩
theorem dz.qy {W:J} {b:Nat} {cs:Array U} {t:X} (h:dz W b cs t):W.frozen? ⟨b,0,L⟩=aJ/\W.frozen? ⟨b,1,L⟩=aJ/\W.frozen? ⟨b,2,L⟩=aJ/\W.frozen? ⟨b,3,L⟩=aJ/\W.frozen? ⟨b,4,L⟩=aJ/\W.frozen? ⟨b,5,L⟩=aJ:=⟨h.fr 0,h.fr 1,h.fr 2,h.fr 3,h.fr 4,h.fr 5⟩
theorem dz.Ko {W:J} {b:Nat} {cs:Array U} {t:X} (h:dz W b cs t):W.frozen? ⟨b,0,L⟩=aJ/\W.frozen? ⟨b,1,L⟩=aJ/\W.frozen? ⟨b,2,L⟩=aJ/\W.frozen? ⟨b,3,L⟩=aJ/\W.frozen? ⟨b,4,L⟩=aJ/\W.frozen? ⟨b,5,L⟩=aJ/\W.frozen? ⟨b,6,L⟩=aJ:=⟨h.fr 0,h.fr 1,h.fr 2,h.fr 3,h.fr 4,h.fr 5,h.fr 6⟩
theorem dz.lt {W:J} {b:Nat} {cs:Array U} {t:X} (h:dz W b cs t):b<W.heap.size:=lt_of_heap h
theorem dz.on {W W':J} {b:Nat} {cs:Array U} {t:X} (h:dz W b cs t) (hb:Below W.heap.size W W'):dz W' b cs t:=by
 have hl:=h.lt;unfold dz at *;rw [hb.block _ hl]; exact h
theorem dz.more {W:J} {b:Nat} {cs:Array U} {t:X} (h:dz W b cs t) (o:Obj):dz (W.alloc o) b cs t:=h.on ((Below.refl _ _).alloc (aS _) _)
theorem dI (W:J) (cs:Array U) (t:X):dz (W.alloc (.cells cs t)) W.heap.size cs t:=by
 unfold dz;show (W.heap.push _)[W.heap.size]?=_;simp
theorem wpList_append_run {P:Program} {ops:Array Oper} {rest:List Oper} {o:Oper} {a:bV} {Q:Exit->bV->J->Prop} {w w':J} (hgd:o.guard=L) (s x:aW) (t:X)
  (ho:o.op=.call { callee:=.builtin .append,args:=#[s,x],argTypes:=#[t,t] }) {v xv v':U} (hs:a.eval s=v) (hx:a.eval x=xv) (hr:(aH #[t,t] o.type #[v,xv]).run P w=.ok v' w')
  (h:wpList P ops Q rest (a.put o.dst v') w'):wpList P ops Q (o::rest) a w:=by
 refine wpList_plain hgd fun K hK=>?_;unfold aX execOp;simp only [ho,resolve,invoke,builtin,aY,aZ,aK,aL,aT,bf,hs,hx,hr];exact hK _ _ h
def oJ:Nat->Code->Code
 | 0,c=>c
 | k+1,.seq _ b=>oJ k b
 | _,c=>c
def dU (k:Nat):Code->Option Code
 | .region id ops d=>if id=k then O (.region id ops d) else L
 | .seq a b=>match dU k a with
  | some c=>O c
  | none=>dU k b
 | .cond _ a b=>match dU k a with
  | some c=>O c
  | none=>dU k b
 | .block _ c=>dU k c
 | .loop c=>dU k c
 | .scope c=>dU k c
 | _=>L
end Rw
namespace Nm
open Go.RowKit Rw
def EI:Ek Int:=⟨3,23,1,8,aU aR 0,fun n=>.int aR n,fun n=>[aU aR n]⟩
theorem Jb:(Try.prog.info? 3).map (fun i=>(i.zero,i.size,i.bytes))=O (O (aU aR 0),1,8):=by kernel_rfl
theorem Ez:EI.Ok where
 hu:=Try.underlying23
 info:=by
  have h:=Jb;cases hi:Try.prog.info? 3 with
  | none=>rw [hi] at h; cases h
  | some i =>
   rw [hi] at h;simp only [Option.map_some,Option.some.injEq,Prod.mk.injEq] at h;exact⟨i,hi,h.1,h.2.1,h.2.2⟩
 zs:=rfl
 len:=fun _=>rfl
 one:=fun x u hu=>by
  simp only [EI,List.mem_cons,List.not_mem_nil,or_false] at hu;rw [hu]
  rfl
 pos:=by decide
 few:=by decide
 load:=fun w p x h=>by
  have h0:=h 0 _ rfl;rw [add_zero] at h0;show (bQ 3 (bJ (O p))).run Z w=.ok (aU aR x) w;simp [go_sem,h0]
abbrev qz (W:J) (v:U) (l:List Int):Prop:=Row EI W v l
abbrev oK (W:J) (B:Nat) (v:U) (l:List Int):Prop:=Own EI W B v l
theorem tV:∀ l:List Int,flat EI l=l.map (fun n=>.int aR n)
 | []=>rfl
 | x::r=>by
  show EI.cells x++flat EI r=_;rw [tV r]
  rfl
end Nm
namespace Rw
open Go.RowKit
variable {α:Type} {E:Ek α}
theorem below_setRow {B g:Nat} {W w:J} (h:Below B W w) (hB:B<=g) (cs:Array U):Below B W (w.setRow g cs) :=
 ⟨h.os,h.tape,h.output,by simp [World.setRow]; exact h.size,fun k hk=>by
  have hne:g≠k:=by omega
  have h2:=h.block k hk;simp [World.setRow,Array.getElem?_modify,hne,h2]⟩
theorem dz.set {w:J} {g:Nat} {cur:Array U} {t:X} (h:dz w g cur t) (cs:Array U):dz (w.setRow g cs) g cs t:=setRow_heap w g cur cs t (0,0) h
theorem dz.other {w:J} {g b:Nat} {cur:Array U} {t:X} (h:dz w b cur t) (hne:b≠g) (cs:Array U):dz (w.setRow g cs) b cur t:=(setRow_other w g b cs hne).trans h
theorem dz.shape {w:J} {b:Nat} {cur:Array U} {t:X} (h:dz w b cur t):w.shape? b=O (t,cur.size):=by
 unfold dz at h;simp [World.shape?,h]
theorem eX {W:J} {B:Nat} {v:U} {l:List α} (h:Own E W B v l):(v=ah L 0 0/\l=[])\/∃ g cap cur,v=ah (O ⟨g,0,L⟩) l.length cap/\B<=g/\dz W g cur E.t/\l.length<=cap/\cap<=maxLen/\cur.size=cap * E.n/\cur.toList.take (l.length * E.n)=flat E l:=by
 rcases h.2 with⟨h1,h2⟩|⟨g,cap,cur,h1,h2,h3,h4,h5,h6,h7⟩
 ·exact bG ⟨h1,aN h2⟩
 ·exact bq ⟨g,cap,cur,h1,h2,h3,h4,h5,h6,h7⟩
theorem jI (K:E.Ok) {W:J} {B g cap n:Nat} {cur:Array U} {l:List α} (hn:n=l.length) (hB:B<=g) (hb:dz W g cur E.t) (h1:n<=cap) (h2:cap<=maxLen) (h3:cur.size=cap * E.n) (h4:cur.toList.take (n * E.n)=flat E l):Own E W B (ah (O ⟨g,0,L⟩) n cap) l:=by
 subst hn;exact⟨dx K l,bq ⟨g,cap,cur,rfl,hB,hb,h1,h2,h3,h4⟩⟩
theorem jJ (K:E.Ok) (l:List α) (k:Nat):(flat E l).take (k * E.n)=flat E (l.take k):=by
 rcases bS k l.length with h|h
 ·conv=>lhs; rw [<- aF k l,eP]
  have e:(flat E (l.take k)).length=k * E.n:=by rw [dx K,Y,V h]
  rw [<- e,bO]
 ·rw [aI h,aI];rw [dx K];exact D _ h
theorem qH (K:E.Ok) (l:List α) (k:Nat):(flat E l).drop (k * E.n)=flat E (l.drop k):=by
 rcases bS k l.length with h|h
 ·conv=>lhs; rw [<- aF k l,eP]
  have e:(flat E (l.take k)).length=k * E.n:=by rw [dx K,Y,V h]
  rw [<- e,List.drop_left]
 ·rw [bg h,bg]
  ·rfl
  rw [dx K];exact D _ h
theorem oL (K:E.Ok) {W:J} {g:Nat} {cur:Array U} {t:X} {l:List α} (hb:dz W g cur t) (ht:cur.toList.take (l.length * E.n)=flat E l) (k:Nat):∀ j u,(flat E (l.drop k))[j]?=O u->W.cell? ((⟨g,k * E.n,L⟩:bI).add j)=O u:=by
 intro j u hj;rw [Addr.add_lit,hb.cell];rw [<- qH K,List.getElem?_drop,<- ht,aP] at hj
 split at hj
 ·simpa using hj
 ·cases hj
theorem mJ {W:J} {b:Nat} {cs:Array U} {t:X} {x:α} (hb:dz W b cs t) (hc:cs.toList=E.cells x):∀ j u,(flat E [x])[j]?=O u->W.cell? ((⟨b,0,L⟩:bI).add j)=O u:=by
 intro j u hj;rw [jS,hb.cell];rw [yB,<- hc] at hj;simpa using hj
theorem gB (K:E.Ok) (g k len cap:Nat) (h:k<=len) (hc:k<cap) (w:J):(aM E.ts (ah (O ⟨g,0,L⟩) len cap) (O (aU aR k)) L L).run Z w=.ok (ah (O ⟨g,k * E.n,L⟩) (len-k) (cap-k)) w:=by
 rw [oI K ⟨g,0,L⟩ k len cap h w,if_neg (by omega),jS]
theorem mK (K:E.Ok) {w:J} {g o nd cd ns sc:Nat} {a:bI} {cur:Array U} {m:List α} (hb:dz w g cur E.t) (hm:∀ j u,(flat E m)[j]?=O u->w.cell? (a.add j)=O u) (hk:min ns nd=m.length) (hr:(o+m.length) * E.n<=cur.size) (ty:X) :
  (aD #[E.ts,E.ts] ty #[ah (O ⟨g,o * E.n,L⟩) nd cd,ah (O a) ns sc]).run Z w=.ok (aU aR m.length) (w.setRow g (cur.toList.take (o * E.n)++flat E m++cur.toList.drop ((o+m.length) * E.n)).toArray):=by
 obtain⟨i,i1,i2,i3,i4⟩:=K.info;have hl:=run_loadCells_list (P:=Z) w a (flat E m) hm;have hst:=run_storeCells_at Z g (o * E.n) E.t (flat E m) 0 cur w hb (by rw [dx K,bK,<- aC]; exact hr) (jH K m);rw [dx K] at hl;have e:o * E.n+0+(flat E m).length=(o+m.length) * E.n:=by rw [dx K,bK,aC]
 rw [e,bK] at hst;simp [aD,run_underlying K.hu,Builtin.lenOf,bH,sizeOf,typeInfo,i1,i3,hk,hl,goInt];simpa using congrArg (fun r=>r.andThen fun _ w=>Result.ok (aU aR m.length) w) hst
/-! ### one element more, in the middle -/
section
variable {l:List α} {k cap:Nat} {cur cs:Array U} {c:α}
theorem nD (K:E.Ok) (hk:k<l.length) (hcap:l.length+1<=cap) (hsz:cur.size=cap * E.n) (ht:cur.toList.take (l.length * E.n)=flat E l) (g b:Nat) (_hne:b≠g) :
  ∃ R1 R2:Array U,
   (∀ (W:J) (ty:X) (nd dc ns sc:Nat),dz W g cur E.t->min ns nd=l.length-k->(aD #[E.ts,E.ts] ty #[ah (O ⟨g,(k+1) * E.n,L⟩) nd dc,ah (O ⟨g,k * E.n,L⟩) ns sc]).run Z W=.ok (aU aR ((l.length-k:Nat):Int)) (W.setRow g R1)) /\
   (∀ (W:J) (ty:X) (nd dc:Nat),dz W g R1 E.t->dz W b cs E.t->cs.toList=E.cells c->1<=nd->(aD #[E.ts,E.ts] ty #[ah (O ⟨g,k * E.n,L⟩) nd dc,ah (O ⟨b,0,L⟩) 1 1]).run Z W=.ok (aU aR 1) (W.setRow g R2)) /\
   (∀ (W:J) (B:Nat),B<=g->cap<=maxLen->dz W g R2 E.t->Own E W B (ah (O ⟨g,0,L⟩) (l.length+1) cap) (l.take k++c::l.drop k)):=by
 have hkl:(l.drop k).length=l.length-k:=by simp
 have hs1:(cur.toList.take ((k+1) * E.n)++flat E (l.drop k)++cur.toList.drop ((k+1+(l.drop k).length) * E.n)).length=cap * E.n:=by
  have h1:(k+1) * E.n<=cap * E.n:=D _ (by omega);have h2:(k+1+(l.drop k).length) * E.n<=cap * E.n:=D _ (by omega);simp only [ay,Y,au,aB,dx K,hsz];rw [V h1];have h3:(k+1+(l.drop k).length) * E.n=(k+1) * E.n+(l.drop k).length * E.n:=aC ..;simp only [au] at h2 h3 ⊢;omega
 refine⟨(cur.toList.take ((k+1) * E.n)++flat E (l.drop k)++cur.toList.drop ((k+1+(l.drop k).length) * E.n)).toArray,
  ((cur.toList.take ((k+1) * E.n)++flat E (l.drop k)++cur.toList.drop ((k+1+(l.drop k).length) * E.n)).take (k * E.n)++flat E [c]++(cur.toList.take ((k+1) * E.n)++flat E (l.drop k)++cur.toList.drop ((k+1+(l.drop k).length) * E.n)).drop ((k+1) * E.n)).toArray,?_,?_,?_⟩
 ·intro W ty nd dc ns sc hb hm;have h:=mK K (o:=k+1) (m:=l.drop k) (nd:=nd) (cd:=dc) (ns:=ns) (sc:=sc) hb (oL K hb ht k) (by rw [hkl]; exact hm) (by rw [hkl,hsz]; exact D _ (by omega)) ty;rw [hkl] at h ⊢;exact h
 ·intro W ty nd dc hb hx hc hn;have h:=mK K (o:=k) (m:=[c]) (nd:=nd) (cd:=dc) (ns:=1) (sc:=1) hb (mJ hx hc) (by simp; omega) (by rw [aG,hs1]; exact D _ (by simp; omega)) ty;simpa using h
 ·intro W B hB hm hb;have p1:(cur.toList.take ((k+1) * E.n)).length=(k+1) * E.n:=by
   rw [Y,aB,hsz];exact V (D _ (by omega))
  have p2:(cur.toList.take ((k+1) * E.n)++flat E (l.drop k)++cur.toList.drop ((k+1+(l.drop k).length) * E.n)).take (k * E.n)=flat E (l.take k):=by
   rw [aj,List.take_append_of_le_length (by rw [p1]; exact D _ (by omega)),bP,V (D _ (by omega)),<- jJ K,<- ht,bP,V (D _ (by omega))]
  have p3:(cur.toList.take ((k+1) * E.n)++flat E (l.drop k)++cur.toList.drop ((k+1+(l.drop k).length) * E.n)).drop ((k+1) * E.n)=flat E (l.drop k)++cur.toList.drop ((k+1+(l.drop k).length) * E.n):=by
   rw [aj,List.drop_left' p1]
  have e:flat E (l.take k)++flat E [c]++flat E (l.drop k)=flat E (l.take k++c::l.drop k):=by
   rw [eP,show c::l.drop k=[c]++l.drop k from rfl,eP,aj]
  have ln:(l.take k++c::l.drop k).length=l.length+1:=by simp; omega
  have q:(flat E (l.take k)++flat E [c]++flat E (l.drop k)).length=(l.length+1) * E.n:=by rw [e,dx K,ln]
  refine jI K ln.symm hB hb hcap hm ?_ ?_
  ·rw [aG,p2,p3,<- aj,ay,q,au,show cur.toList.length=cap * E.n from Array.length_toList.trans hsz,hkl];have h1:(l.length+1) * E.n<=cap * E.n:=D _ hcap;rw [show k+1+(l.length-k)=l.length+1 by omega];omega
  ·rw [p2,p3,<- aj];exact (bM q).trans e
theorem oM (K:E.Ok) (tn:X) (htn:Try.prog.underlying tn=O (.int .i64)) (hk:k<l.length) (hl:l.length<=1000) (hcap:cap<l.length+1) (hlc:l.length<=cap) (ht:cur.toList.take (l.length * E.n)=flat E l) (W:J) (g b:Nat) (hb:dz W g cur E.t) (_hbW:b<W.heap.size) :
  ∃ (G:Nat) (R1 R2 R3:Array U),l.length+1<=G/\G<=maxLen /\
   (∀ ty,(aH #[E.ts,tn] ty #[ah (O ⟨g,0,L⟩) k cap,aU aR ((l.length:Int)+1-k)]).run Z W=.ok (ah (O ⟨W.heap.size,0,L⟩) (l.length+1) G) (W.drew.alloc (.cells R1 E.t))) /\
   (∀ (w:J) (ty:X) (nd dc:Nat),dz w W.heap.size R1 E.t->dz w b cs E.t->cs.toList=E.cells c->1<=nd->(aD #[E.ts,E.ts] ty #[ah (O ⟨W.heap.size,k * E.n,L⟩) nd dc,ah (O ⟨b,0,L⟩) 1 1]).run Z w=.ok (aU aR 1) (w.setRow W.heap.size R2)) /\
   (∀ (w:J) (ty:X) (nd dc ns sc:Nat),dz w W.heap.size R2 E.t->dz w g cur E.t->min ns nd=l.length-k->(aD #[E.ts,E.ts] ty #[ah (O ⟨W.heap.size,(k+1) * E.n,L⟩) nd dc,ah (O ⟨g,k * E.n,L⟩) ns sc]).run Z w=.ok (aU aR ((l.length-k:Nat):Int)) (w.setRow W.heap.size R3)) /\
   (∀ (w:J) (B:Nat),B<=W.heap.size->dz w W.heap.size R3 E.t->Own E w B (ah (O ⟨W.heap.size,0,L⟩) (l.length+1) G) (l.take k++c::l.drop k)):=by
 obtain⟨i,i1,i2,i3,i4⟩:=K.info;have hf:=K.few;have hpos:=K.pos;have hkl:(l.drop k).length=l.length-k:=by simp
 have hold:(bH i.size k (ah (O ⟨g,0,L⟩) k cap)).run Z W.drew=.ok (flat E (l.take k)).toArray W.drew :=
  run_firstCells_some (P:=Z) (w:=W.drew) i.size k ⟨g,0,L⟩ k cap (flat E (l.take k)) (by rw [dx K,Y,V (by omega),i3]) (fun j u hj=>by
   rw [jS];show W.cell? _=_;rw [hb.cell];rw [<- jJ K,<- ht,aP] at hj
   split at hj
   ·rw [aP] at hj
    split at hj
    ·simpa using hj
    ·cases hj
   ·cases hj)
 have happ:=fun ty=>Lib.run_append_grow_zeros (P:=Z) W E.ts tn ty E.t i _ aR aR K.hu htn i1 i2 (O ⟨g,0,L⟩) k cap (flat E (l.take k)) hold (l.length+1-k) (by omega) (by rw [i3]; exact hpos) (by omega) (by omega)
  (by rw [i4]; exact aV (bA (show l.length+1-k<=2000 by omega) hf) (by decide))
  (growslice_fits (by omega) (by rw [i4]; exact aV (bA (show k+(l.length+1-k)<=2000 by omega) hf) (by decide)))
 rw [show k+(l.length+1-k)=l.length+1 by omega] at happ;have hG1:=grownCap_ge W (l.length+1) cap E.t;have hG2:=grownCap_le_maxLen W (l.length+1) cap E.t (by unfold maxLen; omega);generalize grownCap W (l.length+1) cap E.t=G at happ hG1 hG2;obtain⟨R1,Ny⟩:∃ R1:Array U,R1=(flat E (l.take k)).toArray++bL E.z.cells (l.length+1-k)++bL E.z.cells (G-(l.length+1)):=⟨_,rfl⟩;rw [<- Ny] at happ;have hs0:R1.size=G * E.n:=by
  rw [Ny];simp only [Array.size_append,aG,size_zeroCells,K.zs,dx K,Y,V (Nat.le_of_lt hk),<- aC];rw [show k+(l.length+1-k)+(G-(l.length+1))=G by omega]
 have hh:R1.toList.take (k * E.n)=flat E (l.take k):=by
  rw [Ny];simp only [Array.toList_append,aj];have e:(flat E (l.take k)).length=k * E.n:=by rw [dx K,Y,V (by omega)]
  rw [<- e];simp
 have q1:(flat E [c]).length=1 * E.n:=by rw [dx K]; rfl
 have q0:(R1.toList.take (k * E.n)).length=k * E.n:=by
  rw [hh,dx K,Y,V (by omega)]
 have hs2:(R1.toList.take (k * E.n)++flat E [c]++R1.toList.drop ((k+[c].length) * E.n)).length=G * E.n:=by
  have h1:(k+1) * E.n<=G * E.n:=D _ (by omega);have h2:(k+1) * E.n=k * E.n+1 * E.n:=aC ..;simp only [ay,q0,q1,au,aB,hs0,List.length_singleton];omega
 refine⟨G,R1,(R1.toList.take (k * E.n)++flat E [c]++R1.toList.drop ((k+[c].length) * E.n)).toArray,
  ((R1.toList.take (k * E.n)++flat E [c]++R1.toList.drop ((k+[c].length) * E.n)).take ((k+1) * E.n)++flat E (l.drop k)++(R1.toList.take (k * E.n)++flat E [c]++R1.toList.drop ((k+[c].length) * E.n)).drop ((k+1+(l.drop k).length) * E.n)).toArray,hG1,hG2,?_,?_,?_,?_⟩
 ·intro ty;have h:=happ ty;rw [show ((l.length+1-k:Nat):Int)=(l.length:Int)+1-k by omega] at h;exact h
 ·intro w ty nd dc hb' hx hc hn;have h:=mK K (o:=k) (m:=[c]) (nd:=nd) (cd:=dc) (ns:=1) (sc:=1) hb' (mJ hx hc) (by simp; omega) (by rw [hs0]; exact D _ (by simp; omega)) ty;simpa using h
 ·intro w ty nd dc ns sc hb' hx hm;have h:=mK K (o:=k+1) (m:=l.drop k) (nd:=nd) (cd:=dc) (ns:=ns) (sc:=sc) hb' (oL K hx ht k) (by rw [hkl]; exact hm) (by rw [hkl,aG,hs2]; exact D _ (by omega)) ty;rw [hkl] at h ⊢;exact h
 ·intro w B hB hb';have p2:(R1.toList.take (k * E.n)++flat E [c]++R1.toList.drop ((k+[c].length) * E.n)).take ((k+1) * E.n)=flat E (l.take k)++flat E [c]:=by
   have e:(R1.toList.take (k * E.n)++flat E [c]).length=(k+1) * E.n:=by rw [ay,q0,q1,<- aC]
   rw [<- e,bO,hh]
  have e:flat E (l.take k)++flat E [c]++flat E (l.drop k)=flat E (l.take k++c::l.drop k):=by
   rw [eP,show c::l.drop k=[c]++l.drop k from rfl,eP,aj]
  have ln:(l.take k++c::l.drop k).length=l.length+1:=by simp; omega
  have q:(flat E (l.take k)++flat E [c]++flat E (l.drop k)).length=(l.length+1) * E.n:=by rw [e,dx K,ln]
  refine jI K ln.symm hB hb' hG1 hG2 ?_ ?_
  ·rw [aG,p2,ay,q,au,hs2,hkl];have h1:(l.length+1) * E.n<=G * E.n:=D _ hG1;rw [show k+1+(l.length-k)=l.length+1 by omega];omega
  ·rw [p2];exact (bM q).trans e
end
theorem iD {P:Program} {ops:Array Oper} {rest:List Oper} {o:Oper} {a:bV} {Q:Exit->bV->J->Prop} {w w':J} (hgd:o.guard=L) (s x:aW) (t t':X)
  (ho:o.op=.call { callee:=.builtin .append,args:=#[s,x],argTypes:=#[t,t'] }) {v xv v':U} (hs:a.eval s=v) (hx:a.eval x=xv) (hr:(aH #[t,t'] o.type #[v,xv]).run P w=.ok v' w')
  (h:wpList P ops Q rest (a.put o.dst v') w'):wpList P ops Q (o::rest) a w:=by
 refine wpList_plain hgd fun K hK=>?_;unfold aX execOp;simp only [ho,resolve,invoke,builtin,aY,aZ,aK,aL,aT,bf,hs,hx,hr];exact hK _ _ h
theorem gP {P:Program} {ops:Array Oper} {o:Oper} {a:bV} {w w':J} {K:bV->J->Prop} {Q:Exit->bV->J->Prop} {E:Prop}
  (hg:o.guard=L) (s x:aW) (t:X) (hop:o.op=.call { callee:=.builtin .copy,args:=#[s,x],argTypes:=#[t,t] }) {v xv v':U} (hs:a.eval s=v) (hx:a.eval x=xv)
  (hr:(aD #[t,t] o.type #[v,xv]).run P w=.ok v' w') (hK:K (a.put o.dst v') w') :
  if ak o (yielded ops a.tmps)=bU then aX P o a w K Q else E:=by
 have hw:ak o (yielded ops a.tmps)=bU:=by simp [ak,hg]
 rw [if_pos hw];unfold aX execOp;simp only [hop,resolve,invoke,builtin,aY,aZ,aK,aL,aT,bf,hs,hx,hr];exact hK
theorem om {P:Program} {ops:Array Oper} {o:Oper} {a:bV} {w w':J} {K:bV->J->Prop} {Q:Exit->bV->J->Prop} {E:Prop}
  (hg:o.guard=L) (s x:aW) (t:X) (hop:o.op=.call { callee:=.builtin .append,args:=#[s,x],argTypes:=#[t,t] }) {v xv v':U} (hs:a.eval s=v) (hx:a.eval x=xv)
  (hr:(aH #[t,t] o.type #[v,xv]).run P w=.ok v' w') (hK:K (a.put o.dst v') w') :
  if ak o (yielded ops a.tmps)=bU then aX P o a w K Q else E:=by
 have hw:ak o (yielded ops a.tmps)=bU:=by simp [ak,hg]
 rw [if_pos hw];unfold aX execOp;simp only [hop,resolve,invoke,builtin,aY,aZ,aK,aL,aT,bf,hs,hx,hr];exact hK
theorem jD {P:Program} {ops:Array Oper} {o:Oper} {a:bV} {w:J} {K:bV->J->Prop} {Q:Exit->bV->J->Prop} {E:Prop} {f:FuncId} {args:Array U} {R:Ending->J->Prop}
  (hg:o.guard=L) (hr:(execOp a.eval o).run P w=.ok (.enter f args) w) (hc:Calls P f args w R) (hR:∀ e w',R e w'->∃ v,e=.returned v/\K (a.put o.dst v) w') :
  if ak o (yielded ops a.tmps)=bU then aX P o a w K Q else E:=by
 have hw:ak o (yielded ops a.tmps)=bU:=by simp [ak,hg]
 rw [if_pos hw];unfold aX;rw [hr,Oper.upon_enter];refine hc.mono ?_;intro e w' h;obtain⟨v,rfl,hk⟩:=hR e w' h;exact hk
theorem eG {P : Program} {f : FuncId} {fn : Func} {c : Code} (hf : P.funcs[f]? = some fn) (hname : (fn.name == "runtime.NumGoroutine") = false) (hb : fn.body = some c) (args : Array Value) (w : World) : (callFunc f args).run P w = .ok (.enter f args) w := by
 have h1 : fn.name ≠ "runtime.NumGoroutine" := by simpa using hname
 simp [callFunc,hf,h1,hb]
theorem gU {P:Program} (ρ:aW->U) (o:Oper) (x:aW) (t:X) (f:FuncId) (ho:o.op=.call { callee:=.value (.func f),args:=#[x],argTypes:=#[t] }) {v:U} (hx:ρ x=v) (hf:ρ (.func f)=.func (.func f) #[] #[]) (w:J)
  (hc:(callFunc f #[v]).run P w=.ok (.enter f #[v]) w):(execOp ρ o).run P w=.ok (.enter f #[v]) w:=by
 simp [execOp,ho,resolve,invoke,hx,hf,Deferred.ofValue,hc]
theorem gN {P:Program} (ρ:aW->U) (o:Oper) (x y:aW) (t s:X) (f:FuncId) (ho:o.op=.call { callee:=.value (.func f),args:=#[x,y],argTypes:=#[t,s] }) {v u:U} (hx:ρ x=v) (hy:ρ y=u) (hf:ρ (.func f)=.func (.func f) #[] #[]) (w:J)
  (hc:(callFunc f #[v,u]).run P w=.ok (.enter f #[v,u]) w):(execOp ρ o).run P w=.ok (.enter f #[v,u]) w:=by
 simp [execOp,ho,resolve,invoke,hx,hy,hf,Deferred.ofValue,hc]
end Rw
end Go.Proofs.Ytmklifheakemeaa
