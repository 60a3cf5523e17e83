/-
  Rows of elements of . Conditions as told.
-/
import Derived.Test.YtghlpefopidlaaaGreatProg
import Derived.WalkKit
import Derived.ProofKit
import Derived.Laws.AppendOwn
import Derived.Laws.OwnMore
import Derived.Laws.MakeOwn
import Derived.Laws.CopyRow
import Derived.Deep.Slices
import Derived.Deep.CutBlock
import Derived.Deep.Cut
import Derived.Lib.ItoaNum
import GoSem.Claim
import Derived.Laws.Strings
import Derived.RowKit
import Derived.Lib.Hide
import Derived.WalkLawsBesides
import Derived.IntWalk
set_option maxRecDepth 100000
set_option maxHeartbeats 64000000
open _root_.Array renaming length_toList->aM
open _root_.Bool renaming and_eq_true->D,true->Z,false->ay,eq_iff_iff->aC,true_and->aJ,not_false->bP,false_and->bQ,not_true->bU
open _root_.Go renaming World->ah,Value->ak,TypeId->aB,Addr->bL,maxLen->bZ
open Go.Ending renaming returned->aK
open Go.Op renaming bytesLess->L
open Go.Proofs.Tryz renaming prog->aD
open Go.Value renaming slice->aG,string->aQ,int->bG,pointer->bN
open _root_.Int renaming emod_lt_of_pos->aO,tmod_eq_emod->aS,emod_nonneg->aU,le_refl->aV
open _root_.List renaming mem_cons->O,pairwise_cons->U,mem_cons_of_mem->au,mem_cons_self->aA,getElem?_eq_some_iff->aF,prefix_of_prefix_length_le->aH,map_cons->aI,getElem?_append_right->aN,length_cons->aR,length_append->aW,length_drop->aZ,length_take->bf,all_eq_true->bg,any_eq_true->bC,mem_append->bF,nodup_cons->bI,length_map->bJ,mem_filter->bK,mem_map->bV,length->bY
open _root_.Nat renaming le_refl->aP,lt_or_ge->aX,le_trans->aY,add_mul->bD,min_eq_left->bH,zero_le->bW
open _root_.Option renaming none->V,some->X,map_eq_none_iff->aT
open Option.some renaming inj->J
open _root_.Or renaming inr->Y,inl->aj
namespace Go.Proofs.YtghlpefopidlaaaGreat
namespace Rw
open Go.RowKit
structure Ek (α:Type) where
 t:aB
 ts:aB
 n:Nat
 bytes:Nat
 z:ak
 val:α->ak
 cells:α->List ak
structure Ek.Ok {α:Type} (E:Ek α):Prop where
 hu:Tryz.prog.underlying E.ts=X (.slice E.t)
 info:∃ i,Tryz.prog.info? E.t=X i/\i.zero=X E.z/\i.size=E.n/\i.bytes=E.bytes
 zs:E.z.cells.size=E.n
 len:∀ x,(E.cells x).length=E.n
 one:∀ x,∀ u∈E.cells x,u.oneCell'=Z
 pos:0<E.n
 few:E.bytes<=100000
 load:∀ (w:ah) (p:bL) (x:α),(∀ j u,(E.cells x)[j]?=X u->w.cell? (p.add j)=X u)->(Instr.loadAt E.t (bN (X p))).run aD w=.ok (E.val x) w
variable {α:Type} {E:Ek α}
def flat (E:Ek α):List α->List ak
 | []=>[]
 | x::r=>E.cells x++flat E r
theorem fC:∀ a b:List α,flat E (a++b)=flat E a++flat E b
 | [],b=>rfl
 | x::r,b=>by simp [flat,fC r b]
theorem Il (x:α):flat E [x]=E.cells x:=by simp [flat]
theorem dJ (K:E.Ok):∀ l:List α,(flat E l).length=l.length * E.n
 | []=>by simp [flat]
 | x::r=>by simp [flat,dJ K r,K.len x,bD]; omega
theorem jU (K:E.Ok):∀ l:List α,∀ u∈flat E l,u.oneCell'=Z
 | [],u,h=>by cases h
 | x::r,u,h=>by
  simp only [flat,bF] at h;rcases h with h|h
  ·exact K.one x u h
  ·exact jU K r u h
theorem zW (K:E.Ok):∀ (l:List α) (m:Nat) (x:α),l[m]?=X x->∀ j,j<E.n->(flat E l)[m * E.n+j]?=(E.cells x)[j]?
 | [],m,x,h,_,_=>by simp at h
 | y::r,0,x,h,j,hj=>by
  simp at h;subst h;simp only [flat];rw [Nat.zero_mul,Nat.zero_add,List.getElem?_append_left (by rw [K.len]; exact hj)]
 | y::r,m+1,x,h,j,hj=>by
  have h2:=zW K r m x (by simpa using h) j hj;simp only [flat];rw [aN (by rw [K.len,bD]; omega),K.len,show (m+1) * E.n+j-E.n=m * E.n+j by rw [bD]; omega];exact h2
theorem add_add (a:bL) (i j:Nat):(a.add i).add j=a.add (i+j):=by
 unfold Addr.add;by_cases hi:i=0 <;> by_cases hj:j=0 <;> simp [hi,hj,Nat.add_assoc]
theorem add_block (a:bL) (i:Nat):(a.add i).block=a.block:=by unfold Addr.add; split <;> rfl
theorem mD (g j:Nat):(⟨g,0,V⟩:bL).add j=⟨g,j,V⟩:=by unfold Addr.add; split <;> simp_all
theorem add_pos (p:bL) (j:Nat) (h:j≠0):p.add j=⟨p.block,p.off+j,V⟩:=by unfold Addr.add; rw [if_neg h]
theorem add_zero (p:bL):p.add 0=p:=by unfold Addr.add; simp
theorem lt_of_heap {w:ah} {b:Nat} {o:Obj} (h:w.heap[b]?=X o):b<w.heap.size:=by
 rcases aX b w.heap.size with h0|h0
 ·exact h0
 ·simp [Array.getElem?_eq_none h0] at h
theorem nP (w:ah) (row:Option Nat):w.grownBy w row:=⟨rfl,rfl,rfl,aP _,fun _ _ _=>rfl⟩
def Row (E:Ek α) (W:ah) (v:ak) (l:List α):Prop :=
 (l=[]/\v=aG V 0 0)\/∃ (a:bL) (cap:Nat),v=aG (X a) l.length cap/\l.length<=cap/\cap<=bZ/\∀ j u,(flat E l)[j]?=X u->W.cell? (a.add j)=X u
theorem Row.on {W W':ah} {v:ak} {l:List α} (h:Row E W v l) (hb:Below W.heap.size W W'):Row E W' v l:=by
 rcases h with h|⟨a,cap,h1,h2,h3,h5⟩
 ·exact aj h
 ·exact Y ⟨a,cap,h1,h2,h3,fun j u hj=>by
   have hc:=h5 j u hj;rw [hb.cell (World.block_lt_of_cell? W _ hc)]; exact hc⟩
theorem Row.len {W:ah} {v:ak} {l:List α} (h:Row E W v l):∃ ao cap,v=aG ao l.length cap:=by
 rcases h with⟨rfl,rfl⟩|⟨a,cap,rfl,_⟩
 ·exact⟨V,0,rfl⟩
 ·exact⟨_,cap,rfl⟩
theorem Row.most {W:ah} {v:ak} {l:List α} (h:Row E W v l):l.length<=bZ:=by
 rcases h with⟨rfl,rfl⟩|⟨a,cap,rfl,h1,h2,_⟩
 ·exact bW _
 ·omega
theorem jN (W:ah):Row E W (aG V 0 0) ([]:List α):=aj ⟨rfl,rfl⟩
abbrev Own (E:Ek α) (W:ah) (B:Nat) (v:ak) (l:List α):Prop:=W.ownsRow B E.t E.n v l.length (flat E l)
theorem Row.dH {W:ah} {B:Nat} {v:ak} {l:List α} (h:Own E W B v l):Row E W v l:=by
 rcases h.2 with⟨h1,h2⟩|⟨g,cap,cur,h1,h2,h3,h4,h5,h6,h7⟩
 ·exact aj ⟨List.eq_nil_of_length_eq_zero h2,h1⟩
 ·exact Y ⟨⟨g,0,V⟩,cap,h1,h4,h5,fun j u hj=>h.cells (g:=g) (by rw [h1]; rfl) j u hj⟩
theorem dL {W W':ah} {B k:Nat} {e:aB} {v:ak} {n:Nat} {xs:List ak} (h:W.ownsRow B e k v n xs) (hb:Below W.heap.size W W'):W'.ownsRow B e k v n xs:=by
 refine⟨h.1,?_⟩;rcases h.2 with h2|⟨g,cap,cur,h1,h2,h3,h4⟩
 ·exact aj h2
 ·exact Y ⟨g,cap,cur,h1,h2,by rw [hb.block _ (lt_of_heap h3)]; exact h3,h4⟩
theorem KF {W:ah} {B B' k:Nat} {e:aB} {v:ak} {n:Nat} {xs:List ak} (hB:B'<=B) (h:W.ownsRow B e k v n xs):W.ownsRow B' e k v n xs:=by
 refine⟨h.1,?_⟩;rcases h.2 with h2|⟨g,cap,cur,h1,h2,h3⟩
 ·exact aj h2
 ·exact Y ⟨g,cap,cur,h1,aY hB h2,h3⟩
theorem iP (W:ah) (B:Nat):Own E W B (aG V 0 0) ([]:List α):=World.ownsRow_nil _ _ _ _
theorem su (K:E.Ok) (a:bL) (m len cap:Nat) (h:m<len) (w:ah):(Instr.indexAt E.ts (aG (X a) len cap) (bG .i64 m)).run aD w=.ok (bN (X (a.add (m * E.n)))) w:=by
 have h1:(m:Int)<len:=by omega
 obtain⟨i,i1,i2,i3,i4⟩:=K.info;simp [go_sem,K.hu,sizeOf,typeInfo,h1,i1,i3]
theorem mZ (K:E.Ok) (g m len cap:Nat) (h:m<len) (w:ah):(Instr.indexAt E.ts (aG (X ⟨g,0,V⟩) len cap) (bG .i64 m)).run aD w=.ok (bN (X ⟨g,m * E.n,V⟩)) w:=by
 rw [su K ⟨g,0,V⟩ m len cap h w,mD]
theorem qH (K:E.Ok) {W:ah} {v:ak} {l:List α} {ao:Option bL} {n c k:Nat} {x:α} (h:Row E W v l) (hv:v=aG ao n c) (hn:l.length=n) (hk:l[k]?=X x) :
  ∃ p:bL,(∀ w,(Instr.indexAt E.ts (aG ao n c) (bG .i64 k)).run aD w=.ok (bN (X p)) w)/\p.block<W.heap.size/\∀ w,Below W.heap.size W w->∀ j u,(E.cells x)[j]?=X u->w.cell? (p.add j)=X u:=by
 have hlt:=(aF.1 hk).1;rcases h with⟨rfl,_⟩|⟨a,cap,h1,h2,h3,h4⟩
 ·simp at hk
 ·rw [hv] at h1;obtain⟨rfl,rfl,rfl⟩:ao=X a/\n=l.length/\c=cap:=by simpa using h1
  have g:∀ j u,(E.cells x)[j]?=X u->W.cell? ((a.add (k * E.n)).add j)=X u:=fun j u hj=>by
   have hjn:j<E.n:=by have:=(aF.1 hj).1; rw [K.len] at this; exact this
   rw [add_add];exact h4 _ u ((zW K l k x hk j hjn).trans hj)
  have hp:=K.pos;have hb:(a.add (k * E.n)).block<W.heap.size:=by
   obtain⟨u,hu⟩:∃ u,(E.cells x)[0]?=X u:=⟨_,List.getElem?_eq_getElem (by rw [K.len]; exact hp)⟩;have:=World.block_lt_of_cell? W _ (g 0 u hu)
   rwa [add_zero] at this
  exact⟨a.add (k * E.n),fun w=>su K a k _ _ hlt w,hb,fun w hw j u hj=>by
   rw [hw.cell (by rw [add_block]; exact hb)];exact g j u hj⟩
theorem iQ (K:E.Ok) (a:bL) (k len cap:Nat) (h:k<=cap) (w:ah):(Instr.sliceAt E.ts (aG (X a) len cap) V (X (bG .i64 k)) V).run aD w=.ok (aG (X a) k cap) w:=by
 have h1:(k:Int)<=cap:=by omega
 obtain⟨i,i1,i2,i3,i4⟩:=K.info;simp [go_sem,K.hu,sizeOf,typeInfo,h1,i1,i3]
theorem qU (K:E.Ok) (a:bL) (k len cap:Nat) (h:k<=len) (w:ah):(Instr.sliceAt E.ts (aG (X a) len cap) (X (bG .i64 k)) V V).run aD w=.ok (aG (X (if cap=k then a else a.add (k * E.n))) (len-k) (cap-k)) w:=by
 have h1:(k:Int)<=len:=by omega
 obtain⟨i,i1,i2,i3,i4⟩:=K.info;by_cases he:cap=k
 ·subst he;simp [go_sem,K.hu,sizeOf,typeInfo,h1,i1,i3]
 ·simp [go_sem,K.hu,sizeOf,typeInfo,h1,he,i1,i3]
theorem uU (K:E.Ok) {W:ah} {v:ak} {l:List α} (h:Row E W v l) (k:Nat) (hk:k<=l.length):∃ hi,(∀ w,(Instr.sliceAt E.ts v (X (bG .i64 k)) V V).run aD w=.ok hi w)/\Row E W hi (l.drop k):=by
 rcases h with⟨rfl,rfl⟩|⟨a,cap,rfl,h2,h3,h4⟩
 ·obtain rfl:k=0:=by simpa using hk
  obtain⟨i,i1,i2,i3,i4⟩:=K.info;exact⟨aG V 0 0,fun w=>by simp [go_sem,K.hu,sizeOf,typeInfo,i1],aj ⟨rfl,rfl⟩⟩
 ·refine⟨_,qU K a k _ _ hk,Y ⟨_,cap-k,by rw [aZ],by rw [aZ]; omega,by omega,fun j u hj=>?_⟩⟩;have hlt:=(aF.1 hj).1;have hne:(l.drop k)≠[]:=by rintro e; rw [e] at hlt; simp [flat] at hlt
  have hlk:k<l.length:=by
   rcases aX k l.length with h0|h0
   ·exact h0
   ·exact absurd (List.drop_eq_nil_of_le h0) hne
  rw [if_neg (by omega),add_add];refine h4 _ u ?_
  conv=>lhs; rw [<- List.take_append_drop k l,fC]
  rw [aN (by rw [dJ K,bf,bH hk]; omega),dJ K,bf,bH hk,show k * E.n+j-k * E.n=j by omega];exact hj
theorem kr (K:E.Ok) {w:ah} (B:Nat) {v x:ak} {l m:List α} (hown:Own E w B v l) (hx:Row E w x m) (hn:l.length<=1000) (hm:m.length<=1000) (hB:B<=w.heap.size) (ty:aB) :
  ∃ v' w',(Builtin.append_ #[E.ts,E.ts] ty #[v,x]).run aD w=.ok v' w'/\Own E w' B v' (l++m)/\w.grownBy w' v.ownBlock:=by
 obtain⟨i,i1,i2,i3,i4⟩:=K.info;rcases hx with⟨rfl,rfl⟩|⟨ad,c,rfl,h2,h3,h4⟩
 ·exact⟨v,w,run_append_owned_none (P:=aD) (w:=w) B E.ts ty E.t i E.n K.hu i1 v _ _ hown,by simpa using hown,nP _ _⟩
 ·have hf:=K.few;obtain⟨v',w',r1,r2,r3,_⟩:=run_append_own (P:=aD) w B E.ts ty E.t i E.z E.n E.bytes K.hu i1 i2 i3 i4 K.zs K.pos v _ _ hown ad m.length c (flat E m) (dJ K m) h4 (jU K m) (by unfold bZ; omega)
   (aY (Nat.mul_le_mul (show l.length+m.length<=2000 by omega) hf) (by decide)) hB
  exact⟨v',w',r1,by rw [Own,aW,fC]; exact r2,r3⟩
theorem nQ (K:E.Ok) (w:ah) (l:List α) (n:Nat) (hn:n=l.length) (hl:l.length<=1000) (cs:Array ak) (hcs:cs.toList=flat E l):Own E (w.alloc (.cells cs E.t)) w.heap.size (aG (X ⟨w.heap.size,0,V⟩) n n) l:=by
 subst hn;have hsz:cs.size=l.length * E.n:=by rw [<- dJ K,<- hcs,aM]
 refine⟨dJ K l,Y ⟨w.heap.size,l.length,cs,rfl,aP _,?_,aP _,by unfold bZ; omega,hsz,?_⟩⟩
 ·show (w.heap.push _)[w.heap.size]?=_;simp
 ·rw [<- hcs,List.take_of_length_le (by rw [aM,hsz]; exact aP _)]
def dG (W:ah) (b:Nat) (cs:Array ak) (t:aB):Prop:=W.heap[b]?=X (.cells cs t (0,0))
theorem dG.cell {W:ah} {b:Nat} {cs:Array ak} {t:aB} (h:dG W b cs t) (k:Nat):W.cell? ⟨b,k,V⟩=cs[k]?:=by
 unfold dG at h;simp [World.cell?,h]
theorem dG.fr {W:ah} {b:Nat} {cs:Array ak} {t:aB} (h:dG W b cs t) (k:Nat):W.frozen? ⟨b,k,V⟩=ay:=by
 unfold dG at h;simp [World.frozen?,h]
theorem dG.cs2 {W:ah} {b:Nat} {t:aB} {a0 a1:ak} (h:dG W b #[a0,a1] t):W.cell? ⟨b,0,V⟩=X a0/\W.cell? ⟨b,1,V⟩=X a1:=⟨h.cell 0,h.cell 1⟩
theorem dG.cs3 {W:ah} {b:Nat} {t:aB} {a0 a1 a2:ak} (h:dG W b #[a0,a1,a2] t):W.cell? ⟨b,0,V⟩=X a0/\W.cell? ⟨b,1,V⟩=X a1/\W.cell? ⟨b,2,V⟩=X a2:=⟨h.cell 0,h.cell 1,h.cell 2⟩
theorem dG.Gq {W:ah} {b:Nat} {t:aB} {a0 a1 a2 a3:ak} (h:dG W b #[a0,a1,a2,a3] t):W.cell? ⟨b,0,V⟩=X a0/\W.cell? ⟨b,1,V⟩=X a1/\W.cell? ⟨b,2,V⟩=X a2/\W.cell? ⟨b,3,V⟩=X a3:=⟨h.cell 0,h.cell 1,h.cell 2,h.cell 3⟩
theorem dG.cs5 {W:ah} {b:Nat} {t:aB} {a0 a1 a2 a3 a4:ak} (h:dG W b #[a0,a1,a2,a3,a4] t):W.cell? ⟨b,0,V⟩=X a0/\W.cell? ⟨b,1,V⟩=X a1/\W.cell? ⟨b,2,V⟩=X a2/\W.cell? ⟨b,3,V⟩=X a3/\W.cell? ⟨b,4,V⟩=X a4:=⟨h.cell 0,h.cell 1,h.cell 2,h.cell 3,h.cell 4⟩
theorem dG.ig {W:ah} {b:Nat} {t:aB} {a0 a1 a2 a3 a4 a5:ak} (h:dG W b #[a0,a1,a2,a3,a4,a5] t):W.cell? ⟨b,0,V⟩=X a0/\W.cell? ⟨b,1,V⟩=X a1/\W.cell? ⟨b,2,V⟩=X a2/\W.cell? ⟨b,3,V⟩=X a3/\W.cell? ⟨b,4,V⟩=X a4/\W.cell? ⟨b,5,V⟩=X a5:=⟨h.cell 0,h.cell 1,h.cell 2,h.cell 3,h.cell 4,h.cell 5⟩
theorem dG.xM {W:ah} {b:Nat} {t:aB} {a0 a1 a2 a3 a4 a5 a6:ak} (h:dG W b #[a0,a1,a2,a3,a4,a5,a6] t):W.cell? ⟨b,0,V⟩=X a0/\W.cell? ⟨b,1,V⟩=X a1/\W.cell? ⟨b,2,V⟩=X a2/\W.cell? ⟨b,3,V⟩=X a3/\W.cell? ⟨b,4,V⟩=X a4/\W.cell? ⟨b,5,V⟩=X a5/\W.cell? ⟨b,6,V⟩=X a6:=⟨h.cell 0,h.cell 1,h.cell 2,h.cell 3,h.cell 4,h.cell 5,h.cell 6⟩
theorem dG.ZG {W:ah} {b:Nat} {cs:Array ak} {t:aB} (h:dG W b cs t):W.frozen? ⟨b,0,V⟩=ay/\W.frozen? ⟨b,1,V⟩=ay:=⟨h.fr 0,h.fr 1⟩
theorem dG.ZH {W:ah} {b:Nat} {cs:Array ak} {t:aB} (h:dG W b cs t):W.frozen? ⟨b,0,V⟩=ay/\W.frozen? ⟨b,1,V⟩=ay/\W.frozen? ⟨b,2,V⟩=ay/\W.frozen? ⟨b,3,V⟩=ay:=⟨h.fr 0,h.fr 1,h.fr 2,h.fr 3⟩
theorem dG.oJ {W:ah} {b:Nat} {cs:Array ak} {t:aB} (h:dG W b cs t):W.frozen? ⟨b,0,V⟩=ay/\W.frozen? ⟨b,1,V⟩=ay/\W.frozen? ⟨b,2,V⟩=ay/\W.frozen? ⟨b,3,V⟩=ay/\W.frozen? ⟨b,4,V⟩=ay/\W.frozen? ⟨b,5,V⟩=ay:=⟨h.fr 0,h.fr 1,h.fr 2,h.fr 3,h.fr 4,h.fr 5⟩
theorem dG.Zh {W:ah} {b:Nat} {cs:Array ak} {t:aB} (h:dG W b cs t):W.frozen? ⟨b,0,V⟩=ay/\W.frozen? ⟨b,1,V⟩=ay/\W.frozen? ⟨b,2,V⟩=ay/\W.frozen? ⟨b,3,V⟩=ay/\W.frozen? ⟨b,4,V⟩=ay/\W.frozen? ⟨b,5,V⟩=ay/\W.frozen? ⟨b,6,V⟩=ay:=⟨h.fr 0,h.fr 1,h.fr 2,h.fr 3,h.fr 4,h.fr 5,h.fr 6⟩
theorem dG.lt {W:ah} {b:Nat} {cs:Array ak} {t:aB} (h:dG W b cs t):b<W.heap.size:=lt_of_heap h
theorem dG.on {W W':ah} {b:Nat} {cs:Array ak} {t:aB} (h:dG W b cs t) (hb:Below W.heap.size W W'):dG W' b cs t:=by
 have hl:=h.lt;unfold dG at *;rw [hb.block _ hl]; exact h
theorem dG.more {W:ah} {b:Nat} {cs:Array ak} {t:aB} (h:dG W b cs t) (o:Obj):dG (W.alloc o) b cs t:=h.on ((Below.refl _ _).alloc (aP _) _)
theorem dO (W:ah) (cs:Array ak) (t:aB):dG (W.alloc (.cells cs t)) W.heap.size cs t:=by
 unfold dG;show (W.heap.push _)[W.heap.size]?=_;simp
theorem wpList_append_run {P:Program} {ops:Array Oper} {rest:List Oper} {o:Oper} {a:Act} {Q:Exit->Act->ah->Prop} {w w':ah} (hgd:o.guard=V) (s x:Operand) (t:aB)
  (ho:o.op=.call { callee:=.builtin .append,args:=#[s,x],argTypes:=#[t,t] }) {v xv v':ak} (hs:a.eval s=v) (hx:a.eval x=xv) (hr:(Builtin.append_ #[t,t] o.type #[v,xv]).run P w=.ok v' w')
  (h:wpList P ops Q rest (a.put o.dst v') w'):wpList P ops Q (o::rest) a w:=by
 refine wpList_plain hgd fun K hK=>?_;unfold Oper.wp execOp;simp only [ho,resolve,invoke,builtin,Sem.run_bind,Sem.run_pure,Result.andThen_ok,List.map_toArray,aI,List.map_nil,hs,hx,hr];exact hK _ _ h
def iH (k:Nat):Code->Option Code
 | .block id c=>if id=k then X (.block id c) else iH k c
 | .seq a b=>match iH k a with
  | some c=>X c
  | none=>iH k b
 | .cond _ a b=>match iH k a with
  | some c=>X c
  | none=>iH k b
 | .loop c=>iH k c
 | .scope c=>iH k c
 | _=>V
def eU (k:Nat):Code->Option Code
 | .region id ops d=>if id=k then X (.region id ops d) else V
 | .seq a b=>match eU k a with
  | some c=>X c
  | none=>eU k b
 | .cond _ a b=>match eU k a with
  | some c=>X c
  | none=>eU k b
 | .block _ c=>eU k c
 | .loop c=>eU k c
 | .scope c=>eU k c
 | _=>V
end Rw
namespace Vs
/-! ### the order of texts -/
theorem sw:∀ x:List UInt8,L x x=ay
 | []=>rfl
 | a::x=>by simp [L,sw x]
theorem zX (a b:UInt8) (x y:List UInt8):L (a::x) (b::y)=Z↔a.toNat<b.toNat\/(a.toNat=b.toNat/\L x y=Z):=by
 simp only [L,Bool.or_eq_true,decide_eq_true_eq,D,beq_iff_eq,UInt8.lt_iff_toNat_lt];constructor
 ·rintro (h|⟨h,k⟩)
  ·exact aj h
  ·exact Y ⟨by rw [h],k⟩
 ·rintro (h|⟨h,k⟩)
  ·exact aj h
  ·exact Y ⟨UInt8.toNat_inj.1 h,k⟩
theorem uV:∀ x y z:List UInt8,L x y=Z->L y z=Z->L x z=Z
 | _,[],_,h,_=>by cases ‹List UInt8› <;> simp [L] at h
 | _,_::_,[],_,k=>by simp [L] at k
 | [],_::_,_::_,_,_=>rfl
 | a::x,b::y,c::z,h,k=>by
  rw [zX] at h k ⊢;rcases h with h|⟨h,h2⟩ <;> rcases k with k|⟨k,k2⟩
  ·exact aj (by omega)
  ·exact aj (by omega)
  ·exact aj (by omega)
  ·exact Y ⟨by omega,uV x y z h2 k2⟩
theorem Bo:∀ x y:List UInt8,L x y=Z\/x=y\/L y x=Z
 | [],[]=>Y (aj rfl)
 | [],_::_=>aj rfl
 | _::_,[]=>Y (Y rfl)
 | a::x,b::y=>by
  rw [zX,zX];rcases Nat.lt_trichotomy a.toNat b.toNat with h|h|h
  ·exact aj (aj h)
  ·rcases Bo x y with k|k|k
   ·exact aj (Y ⟨h,k⟩)
   ·exact Y (aj (by rw [k,UInt8.toNat_inj.1 h]))
   ·exact Y (Y (Y ⟨h.symm,k⟩))
  ·exact Y (Y (aj h))
end Vs
namespace Pu
open Go.RowKit
def uG (c:UInt8):Bool:=decide (97<=c.toNat) && decide (c.toNat<=122)
def kR (s:ByteArray):Bool:=s.data.toList.all uG && (decide (1<=s.size) && decide (s.size<=12))
theorem yu (s:ByteArray) (k:Nat) (h:k<s.size) (hc:uG s[k]=ay):kR s=ay:=by
 have:s.data.toList.all uG=ay:=by
  rw [List.all_eq_false];exact⟨s[k],by rw [Array.mem_toList_iff]; exact Array.getElem_mem h,by rw [hc]; decide⟩
 simp [kR,this]
theorem Im (s:ByteArray) (h:∀ (j:Nat) (hj:j<s.size),uG s[j]=Z):kR s=(decide (1<=s.size) && decide (s.size<=12)):=by
 have:s.data.toList.all uG=Z:=by
  rw [bg];intro c hc;obtain⟨j,hj,rfl⟩:=List.getElem_of_mem hc;exact h j (by rw [aM] at hj; exact hj)
 simp [kR,this]
theorem qV {a b:ByteArray} (h:a.toList=b.toList):a=b:=by
 rw [ByteArray.toList_eq,ByteArray.toList_eq] at h;exact WideShapes.bytes_inj h
theorem uM {a b:ByteArray} (h:L a.toList b.toList=Z):a≠b:=by
 rintro rfl;rw [Vs.sw] at h; cases h
theorem Py {a b:ByteArray} (h1:¬ L a.toList b.toList=Z) (h2:a≠b):L b.toList a.toList=Z:=by
 rcases Vs.Bo a.toList b.toList with h|h|h
 ·exact absurd h h1
 ·exact absurd (qV h) h2
 ·exact h
end Pu
namespace Pr
open Go.RowKit Pu
inductive Kd where
 | rg (lo hi:Int)
 | tx (t:ByteArray)
 | pr (t:ByteArray)
abbrev Cn:=ByteArray×Kd
abbrev V3:=Bool×Int×ByteArray
def kN:Kd->Int
 | .rg _ _=>1
 | .tx _=>2
 | .pr _=>3
def mE:Kd->Int
 | .rg lo _=>lo
 | _=>0
def mF:Kd->Int
 | .rg _ hi=>hi
 | _=>0
def kT:Kd->ByteArray
 | .rg _ _=>⟨#[]⟩
 | .tx t=>t
 | .pr t=>t
def pfx (s t:ByteArray):Bool:=s.data.toList.isPrefixOf t.data.toList
theorem fA (s t:ByteArray):pfx s t=Z↔s.data.toList <+: t.data.toList:=List.isPrefixOf_iff_prefix
theorem lH (s:ByteArray):pfx s s=Z:=(fA s s).2 (List.prefix_refl _)
def fJ:Kd->Bool
 | .rg lo hi=>decide (lo<=hi)
 | .tx t=>decide (t.size<=12)
 | .pr t=>decide (t.size<12)
def qz (c:Cn):Bool:=kR c.1 && fJ c.2
def dZ:Kd->V3->Bool
 | .rg lo hi,v=>!v.1 && (decide (lo<=v.2.1) && decide (v.2.1<=hi))
 | .tx t,v=>v.1 && (v.2.2.data.toList == t.data.toList)
 | .pr t,v=>v.1 && pfx t v.2.2
def fK:Kd->Kd->Option Kd
 | .rg a b,.rg c d=>if max a c<=min b d then X (.rg (max a c) (min b d)) else V
 | .tx s,.tx t=>if s.data.toList=t.data.toList then X (.tx s) else V
 | .tx s,.pr t=>if pfx t s then X (.tx s) else V
 | .pr s,.tx t=>if pfx s t then X (.tx t) else V
 | .pr s,.pr t=>if pfx s t then X (.pr t) else if pfx t s then X (.pr s) else V
 | _,_=>V
theorem qW {s t:ByteArray} (h:s.data.toList=t.data.toList):s=t:=WideShapes.bytes_inj h
theorem yw (a b c:Kd) (ha:fJ a=Z) (hb:fJ b=Z) (h:fK a b=X c):fJ c=Z/\∀ v,dZ c v=(dZ a v && dZ b v):=by
 cases a with
 | rg p q=>cases b with
  | rg r s =>
   simp only [fK] at h
   split at h
   ·rename_i hc
    obtain rfl:=J h;refine⟨by simpa [fJ] using hc,fun v=>?_⟩;obtain⟨t,n,u⟩:=v;cases t <;> simp only [dZ,bU,bP,bQ,aJ];rw [aC];simp only [D,decide_eq_true_eq];omega
   ·cases h
  | tx t=>simp [fK] at h
  | pr t=>simp [fK] at h
 | tx p=>cases b with
  | rg r s=>simp [fK] at h
  | tx t =>
   simp only [fK] at h
   split at h
   ·rename_i hc
    obtain rfl:=J h;exact⟨ha,fun v=>by simp [dZ,hc]⟩
   ·cases h
  | pr t =>
   simp only [fK] at h
   split at h
   ·rename_i hc
    obtain rfl:=J h;refine⟨ha,fun v=>?_⟩;rw [aC];simp only [dZ,D,beq_iff_eq];constructor
    ·rintro⟨h1,h2⟩;exact⟨⟨h1,h2⟩,h1,by rw [fA,h2,<- fA]; exact hc⟩
    ·rintro⟨h1,_⟩;exact h1
   ·cases h
 | pr p=>cases b with
  | rg r s=>simp [fK] at h
  | tx t =>
   simp only [fK] at h
   split at h
   ·rename_i hc
    obtain rfl:=J h;refine⟨hb,fun v=>?_⟩;rw [aC];simp only [dZ,D,beq_iff_eq];constructor
    ·rintro⟨h1,h2⟩;exact⟨⟨h1,by rw [fA,h2,<- fA]; exact hc⟩,h1,h2⟩
    ·rintro⟨_,h1⟩;exact h1
   ·cases h
  | pr t =>
   simp only [fK] at h
   split at h
   ·rename_i hc
    obtain rfl:=J h;refine⟨hb,fun v=>?_⟩;rw [aC];simp only [dZ,D];constructor
    ·rintro⟨h1,h2⟩;exact⟨⟨h1,(fA _ _).2 (((fA _ _).1 hc).trans ((fA _ _).1 h2))⟩,h1,h2⟩
    ·rintro⟨_,h1⟩;exact h1
   ·split at h
    ·rename_i _ hc
     obtain rfl:=J h;refine⟨ha,fun v=>?_⟩;rw [aC];simp only [dZ,D];constructor
     ·rintro⟨h1,h2⟩;exact⟨⟨h1,h2⟩,h1,(fA _ _).2 (((fA _ _).1 hc).trans ((fA _ _).1 h2))⟩
     ·rintro⟨h1,_⟩;exact h1
    ·cases h
theorem yx (a b:Kd) (h:fK a b=V) (v:V3):(dZ a v && dZ b v)=ay:=by
 obtain⟨w,n,u⟩:=v;rw [Bool.eq_false_iff];intro hv;rw [D] at hv;obtain⟨h1,h2⟩:=hv;cases a with
 | rg p q=>cases b with
  | rg r s =>
   simp only [fK] at h
   split at h
   ·cases h
   ·rename_i hc
    simp only [dZ,D,decide_eq_true_eq] at h1 h2;omega
  | tx t=>simp only [dZ,D] at h1 h2; rw [h2.1] at h1; cases h1.1
  | pr t=>simp only [dZ,D] at h1 h2; rw [h2.1] at h1; cases h1.1
 | tx p=>cases b with
  | rg r s=>simp only [dZ,D] at h1 h2; rw [h1.1] at h2; cases h2.1
  | tx t =>
   simp only [dZ,D,beq_iff_eq] at h1 h2;simp only [fK] at h;rw [if_pos (h1.2.symm.trans h2.2)] at h;cases h
  | pr t =>
   simp only [dZ,D,beq_iff_eq] at h1 h2;simp only [fK] at h;rw [if_pos (by rw [fA,<- h1.2,<- fA]; exact h2.2)] at h;cases h
 | pr p=>cases b with
  | rg r s=>simp only [dZ,D] at h1 h2; rw [h1.1] at h2; cases h2.1
  | tx t =>
   simp only [dZ,D,beq_iff_eq] at h1 h2;simp only [fK] at h;rw [if_pos (by rw [fA,<- h2.2,<- fA]; exact h1.2)] at h;cases h
  | pr t =>
   simp only [dZ,D] at h1 h2;have e1:=(fA _ _).1 h1.2;have e2:=(fA _ _).1 h2.2;simp only [fK] at h;rcases Nat.le_total p.data.toList.length t.data.toList.length with hl|hl
   ·rw [if_pos ((fA _ _).2 (aH e1 e2 hl))] at h;cases h
   ·by_cases hp:pfx p t=Z
    ·rw [if_pos hp] at h; cases h
    ·rw [if_neg hp,if_pos ((fA _ _).2 (aH e2 e1 hl))] at h;cases h
theorem uW (a:Kd) (h:fJ a=Z):∃ v,dZ a v=Z:=by
 cases a with
 | rg lo hi =>
  simp only [fJ,decide_eq_true_eq] at h;exact⟨(ay,lo,⟨#[]⟩),by simp [dZ,h]⟩
 | tx t=>exact⟨(Z,0,t),by simp [dZ]⟩
 | pr t=>exact⟨(Z,0,t),by simp only [dZ,aJ]; exact lH t⟩
theorem ku (t s:ByteArray):dZ (.pr t) (Z,0,s)=pfx t s:=by simp only [dZ,aJ]
theorem kU (t s:ByteArray):dZ (.tx t) (Z,0,s)=(s.data.toList == t.data.toList):=by simp only [dZ,aJ]
theorem pU (a b:Int) (s:ByteArray):dZ (.rg a b) (Z,0,s)=ay:=by simp only [dZ,bU,bQ]
theorem uX (a b n:Int):dZ (.rg a b) (ay,n,⟨#[]⟩)=(decide (a<=n) && decide (n<=b)):=by simp only [dZ,bP,aJ]
def more (t:ByteArray):ByteArray:=⟨(t.data.toList++[0]).toArray⟩
theorem Bp (t:ByteArray):pfx t (more t)=Z:=(fA _ _).2 (List.prefix_append _ _)
theorem yA (p t:ByteArray) (h:∀ v,dZ (.tx p) v=dZ (.pr t) v):False:=by
 have h1:=h (Z,0,more t);have h2:=h (Z,0,t);rw [kU,ku,Bp,beq_iff_eq] at h1;rw [kU,ku,lH,beq_iff_eq] at h2;rw [<- h2] at h1;have h3:=congrArg bY h1;simp [more] at h3
theorem Ef (a b:Kd) (ha:fJ a=Z) (hb:fJ b=Z) (h:∀ v,dZ a v=dZ b v):a=b:=by
 cases a with
 | rg p q=>cases b with
  | rg r s =>
   simp only [fJ,decide_eq_true_eq] at ha hb;have le:∀ n,(p<=n/\n<=q)↔(r<=n/\n<=s):=fun n=>by
    have h1:=h (ay,n,⟨#[]⟩);rw [uX,uX,aC,D,D,decide_eq_true_eq,decide_eq_true_eq,decide_eq_true_eq,decide_eq_true_eq] at h1;exact h1
   have h1:=(le p).1 ⟨aV _,ha⟩;have h2:=(le q).1 ⟨ha,aV _⟩;have h3:=(le r).2 ⟨aV _,hb⟩;have h4:=(le s).2 ⟨hb,aV _⟩;rw [show p=r by omega,show q=s by omega]
  | tx t=>have h1:=h (Z,0,t); rw [pU,kU,beq_self_eq_true] at h1; cases h1
  | pr t=>have h1:=h (Z,0,t); rw [pU,ku,lH] at h1; cases h1
 | tx p=>cases b with
  | rg r s=>have h1:=h (Z,0,p); rw [pU,kU,beq_self_eq_true] at h1; cases h1
  | tx t =>
   have h1:=h (Z,0,p);rw [kU,kU,beq_self_eq_true] at h1;rw [qW (beq_iff_eq.1 h1.symm)]
  | pr t=>exact (yA p t h).elim
 | pr p=>cases b with
  | rg r s=>have h1:=h (Z,0,p); rw [pU,ku,lH] at h1; cases h1
  | tx t=>exact (yA t p fun v=>(h v).symm).elim
  | pr t =>
   have h1:=h (Z,0,p);have h2:=h (Z,0,t);rw [ku,ku,lH] at h1 h2;have e1:=(fA _ _).1 h1.symm;have e2:=(fA _ _).1 h2;rw [qW (e2.eq_of_length_le e1.length_le)]
/-! ### normal forms -/
def iB (l:List Cn):Prop:=l.Pairwise fun x y=>L x.1.toList y.1.toList=Z
def kL:List Cn->Cn->Option (List Cn)
 | [],c=>X [c]
 | x::r,c=>if L x.1.toList c.1.toList=Z then (kL r c).map (x::·) else if x.1=c.1 then (fK x.2 c.2).map (fun k=>(x.1,k)::r) else X (c::x::r)
def jg:Nat->List Cn->List Cn->Except (Int×Nat) (List Cn)
 | _,m,[]=>.ok m
 | at_,m,c::r=>match kL m c with
  | none=>.error (5,at_)
  | some m'=>if 5<m'.length then .error (7,at_) else jg (at_+1) m' r
def uY (l:List Cn):Except (Int×Nat) (List Cn):=jg 0 [] l
theorem Gr:∀ (m:List Cn) (c:Cn),(∀ x∈m,L x.1.toList c.1.toList=Z)->kL m c=X (m++[c])
 | [],c,_=>rfl
 | x::r,c,h=>by
  simp only [kL];rw [if_pos (h x (aA ..)),Gr r c (fun y hy=>h y (au _ hy))]
  rfl
theorem Bq:∀ (p m:List Cn) (at_:Nat),iB (m++p)->(m++p).length<=5->jg at_ m p=.ok (m++p)
 | [],m,at_,_,_=>by simp [jg]
 | c::r,m,at_,h,h5=>by
  have h1:∀ x∈m,L x.1.toList c.1.toList=Z:=fun x hx=>(List.pairwise_append.1 h).2.2 x hx c (aA ..);simp only [jg];rw [Gr m c h1];simp only;rw [if_neg (by simp at h5 ⊢; omega),Bq r (m++[c]) (at_+1) (by simpa using h) (by simpa using h5)];simp
theorem Io (p:List Cn) (h:iB p) (h5:p.length<=5):uY p=.ok p:=by
 have:=Bq p [] 0 (by simpa using h) (by simpa using h5);simpa [uY] using this
theorem tX:∀ (a b m m':List Cn) (at_:Nat),jg at_ m a=.ok m'->jg at_ m (a++b)=jg (at_+a.length) m' b
 | [],b,m,m',at_,h=>by
  simp only [jg] at h;injection h with h
  subst h;simp
 | c::r,b,m,m',at_,h=>by
  simp only [List.cons_append,jg] at h ⊢;cases hi:kL m c with
  | none=>rw [hi] at h; cases h
  | some n =>
   rw [hi] at h;simp only at h ⊢
   split at h
   ·cases h
   ·rename_i hn
    rw [if_neg hn,tX r b n m' (at_+1) h];rw [aR,show at_+1+r.length=at_+(r.length+1) by omega]
theorem kC:∀ (m:List Cn) (c:Cn) (m':List Cn),iB m->kL m c=X m'->iB m'/\∀ y∈m',y.1=c.1\/∃ x∈m,x.1=y.1
 | [],c,m',_,h=>by
  obtain rfl:=J h;exact⟨List.pairwise_singleton _ _,fun y hy=>aj (by simp at hy; rw [hy])⟩
 | x::r,c,m',hr,h=>by
  obtain⟨h1,h2⟩:=U.1 hr;simp only [kL] at h
  split at h
  ·rename_i hl
   cases hi:kL r c with
   | none=>rw [hi] at h; cases h
   | some n =>
    rw [hi] at h;obtain rfl:=J h;obtain⟨k1,k2⟩:=kC r c n h2 hi;refine⟨U.2 ⟨fun y hy=>?_,k1⟩,fun y hy=>?_⟩
    ·rcases k2 y hy with e|⟨z,hz,e⟩
     ·rw [e]; exact hl
     ·rw [<- e]; exact h1 z hz
    ·rcases O.1 hy with rfl|hy
     ·exact Y ⟨y,aA ..,rfl⟩
     ·rcases k2 y hy with e|⟨z,hz,e⟩
      ·exact aj e
      ·exact Y ⟨z,au _ hz,e⟩
  ·rename_i hl
   split at h
   ·rename_i he
    cases hb:fK x.2 c.2 with
    | none=>rw [hb] at h; cases h
    | some k =>
     rw [hb] at h;obtain rfl:=J h;refine⟨U.2 ⟨fun y hy=>h1 y hy,h2⟩,fun y hy=>?_⟩;rcases O.1 hy with rfl|hy
     ·exact aj he
     ·exact Y ⟨y,au _ hy,rfl⟩
   ·rename_i he
    obtain rfl:=J h;have hc:L c.1.toList x.1.toList=Z:=Py hl he;refine⟨U.2 ⟨fun y hy=>?_,hr⟩,fun y hy=>?_⟩
    ·rcases O.1 hy with rfl|hy
     ·exact hc
     ·exact Vs.uV _ _ _ hc (h1 y hy)
    ·rcases O.1 hy with rfl|hy
     ·exact aj rfl
     ·exact Y ⟨y,hy,rfl⟩
theorem oM:∀ {l:List Cn},iB l->(l.map (·.1)).Nodup
 | [],_=>by simp
 | x::r,h=>by
  obtain⟨h1,h2⟩:=U.1 h;simp only [aI,bI];refine⟨fun hm=>?_,oM h2⟩;obtain⟨y,hy,e⟩:=bV.1 hm;exact uM (h1 y hy) e.symm
/-! ### what they say -/
end Pr
namespace Wi
open Go.RowKit
def within (n lo hi:Int):Int:=lo+n % (hi-lo+1)
theorem iR (n lo hi:Int) (h:lo<=hi):lo<=within n lo hi/\within n lo hi<=hi:=by
 unfold within;have h1:=aU n (show hi-lo+1≠0 by omega);have h2:=aO n (show 0<hi-lo+1 by omega);omega
theorem Eh (n lo hi:Int) (h:lo<=hi) (hn:¬ n.tmod (hi-lo+1)<0):lo+n.tmod (hi-lo+1)=within n lo hi:=by
 unfold within;rw [aS] at hn ⊢
 split at hn
 ·rename_i h0; rw [if_pos h0]; omega
 ·rename_i h0
  rw [if_neg h0] at *;have h2:=aO n (show 0<hi-lo+1 by omega);have:((hi-lo+1).natAbs:Int)=hi-lo+1:=by omega
  omega
theorem Ei (n lo hi:Int) (h:lo<=hi) (hn:n.tmod (hi-lo+1)<0):lo+(n.tmod (hi-lo+1)+hi-lo+1)=within n lo hi:=by
 unfold within;rw [aS] at hn ⊢
 split at hn
 ·have h1:=aU n (show hi-lo+1≠0 by omega);omega
 ·rename_i h0
  rw [if_neg h0] at *;have:((hi-lo+1).natAbs:Int)=hi-lo+1:=by omega
  omega
theorem Pz (n m:Int) (h:0<m):-m<n.tmod m/\n.tmod m<m:=by
 rw [aS];have h1:=aU n (show m≠0 by omega);have h2:=aO n h
 split <;> omega
theorem zY {k:IntKind} {a b:Int} (h:a=b):aK (bG k a)=aK (bG k b):=by rw [h]
theorem jI (n lo hi:Int) (w:ah) (h:lo<=hi) (h1:-1000000<=lo) (h2:hi<=1000000) (_hn1:-9223372036854775808<=n) (_hn2:n<=9223372036854775807) :
  Calls aD 14 #[bG .i64 n,bG .i64 lo,bG .i64 hi] w fun e w'=>e=aK (bG .i64 (within n lo hi))/\w=w':=by
 have hm:0<hi-lo+1:=by omega
 have hm2:hi-lo+1<=2000001:=by omega
 have hb:=Pz n (hi-lo+1) hm;have P:=Lib.hid (Eh n lo hi h);have Q:=Lib.hid (Ei n lo hi h);go_enter Tryz.func14,Tryz.ntmps14;go_wp2
 ·go_ret;exact⟨zY (Q.out (by omega)),rfl⟩
 ·go_ret;exact⟨zY (P.out (by omega)),rfl⟩
end Wi
namespace Va
open Go.RowKit
abbrev vl (t:Bool) (n:Int) (s:ByteArray):ak:=.agg #[.bool t,bG .i64 n,aQ s]
theorem eX {a b:Bool} (h:a=b):aK (.bool a)=aK (.bool b):=by rw [h]
def VR:Array ak:=#[aQ ⟨#[]⟩,aQ ⟨#[120]⟩,aQ ⟨#[120,121]⟩,aQ ⟨#[120,121,122]⟩,aQ ⟨#[120,122]⟩,aQ ⟨#[121]⟩,aQ ⟨#[121,121]⟩]
def qA (r:Int):ByteArray:=[⟨#[]⟩,⟨#[120]⟩,⟨#[120,121]⟩,⟨#[120,121,122]⟩,⟨#[120,122]⟩,⟨#[121]⟩,⟨#[121,121]⟩].getD r.toNat ⟨#[]⟩
theorem PD (r:Int) (h0:0<=r) (h1:r<=6):VR[r.toNat]?=X (aQ (qA r)):=by
 obtain⟨n,rfl⟩:=Int.eq_ofNat_of_zero_le h0;have hn:n<=6:=by omega
 match n,hn with
 | 0,_=>rfl
 | 1,_=>rfl
 | 2,_=>rfl
 | 3,_=>rfl
 | 4,_=>rfl
 | 5,_=>rfl
 | 6,_=>rfl
theorem yB (w:ah) :
  Calls aD 122 #[] w fun e w'=>e=aK (aG (X ⟨w.heap.size,0,V⟩) 7 7)/\w'=w.alloc (.cells VR 9):=by
 go_enter Tryz.func122,Tryz.ntmps122;go_wp2;go_ret;exact⟨rfl,rfl⟩
theorem Bt (r:Int):(qA r).size<=3:=by
 unfold qA;rcases aX r.toNat 7 with h|h
 ·generalize r.toNat=n at h
  match n,h with
  | 0,_=>decide
  | 1,_=>decide
  | 2,_=>decide
  | 3,_=>decide
  | 4,_=>decide
  | 5,_=>decide
  | 6,_=>decide
 ·rw [List.getD_eq_getElem?_getD,List.getElem?_eq_none (by simpa using h)]
  decide
end Va
namespace Rl
open Go.RowKit Pu Pr
abbrev An:=ByteArray×V3
def names (m:List Cn):List ByteArray:=m.map (·.1)
def has (m:List Cn) (n:ByteArray):Bool:=m.any fun x=>decide (x.1=n)
theorem uN (m:List Cn) (n:ByteArray):has m n=Z↔n∈names m:=by
 simp only [has,names,bC,decide_eq_true_eq,bV]
def fresh (m r:List Cn):Nat:=r.countP fun y=>!has m y.1
def Clear (m r:List Cn):Prop:=∀ x∈m,∀ y∈r,x.1=y.1->fK x.2 y.2≠V
def uZ (m r:List Cn):Prop:=Clear m r/\m.length+fresh m r<=5
def nR (a b:List Cn):Bool:=match jg a.length a b with
 | .ok _=>Z
 | .error _=>ay
theorem yC {c:Cn} {r:List Cn} (h:iB (c::r)):∀ y∈r,y.1≠c.1:=fun y hy e=>uM ((U.1 h).1 y hy) e.symm
theorem vg:∀ (m:List Cn) (c:Cn) (m':List Cn),iB m->kL m c=X m'->m'.length=m.length+(if has m c.1 then 0 else 1)
 | [],c,m',_,h=>by
  obtain rfl:=J h
  rfl
 | x::r,c,m',hr,h=>by
  obtain⟨h1,h2⟩:=U.1 hr;simp only [kL] at h
  split at h
  ·rename_i hl
   cases hi:kL r c with
   | none=>rw [hi] at h; cases h
   | some n =>
    rw [hi] at h;obtain rfl:=J h;have e:=vg r c n h2 hi;have hx:has (x::r) c.1=has r c.1:=by simp [has,uM hl]
    rw [hx];simp only [aR];omega
  ·rename_i hl
   split at h
   ·rename_i he
    cases hb:fK x.2 c.2 with
    | none=>rw [hb] at h; cases h
    | some k =>
     rw [hb] at h;obtain rfl:=J h;have hx:has (x::r) c.1=Z:=by simp [has,he]
     rw [hx]
     rfl
   ·rename_i he
    obtain rfl:=J h;have hx:has (x::r) c.1=ay:=by
     simp only [has,List.any_cons,Bool.or_eq_false_iff,decide_eq_false_iff_not,List.any_eq_false,decide_eq_true_eq];refine⟨he,fun y hy e=>?_⟩;have h3:=h1 y hy;rw [e] at h3;exact hl h3
    rw [hx]
    rfl
theorem Gs:∀ (m:List Cn) (c:Cn) (m':List Cn),iB m->kL m c=X m'->(∀ x,x.1≠c.1->(x∈m'↔x∈m))/\(∀ n,n∈names m'↔n=c.1\/n∈names m)
 | [],c,m',_,h=>by
  obtain rfl:=J h;exact⟨fun x hx=>by simp; intro e; exact hx (by rw [e]),fun n=>by simp [names]⟩
 | x::r,c,m',hr,h=>by
  obtain⟨h1,h2⟩:=U.1 hr;simp only [kL] at h
  split at h
  ·cases hi:kL r c with
   | none=>rw [hi] at h; cases h
   | some n =>
    rw [hi] at h;obtain rfl:=J h;obtain⟨e1,e2⟩:=Gs r c n h2 hi;refine⟨fun y hy=>by rw [O,O,e1 y hy],fun k=>?_⟩;have:=e2 k;simp only [names,aI,O] at this ⊢;rw [this];constructor
    ·rintro (h|h|h)
     ·exact Y (aj h)
     ·exact aj h
     ·exact Y (Y h)
    ·rintro (h|h|h)
     ·exact Y (aj h)
     ·exact aj h
     ·exact Y (Y h)
  ·split at h
   ·rename_i he
    cases hb:fK x.2 c.2 with
    | none=>rw [hb] at h; cases h
    | some k =>
     rw [hb] at h;obtain rfl:=J h;refine⟨fun y hy=>?_,fun n=>?_⟩
     ·simp only [O];constructor
      ·rintro (h|h)
       ·exact absurd (by rw [h]; exact he) hy
       ·exact Y h
      ·rintro (h|h)
       ·exact absurd (by rw [h]; exact he) hy
       ·exact Y h
     ·simp only [names,aI,O,he];constructor
      ·rintro (h|h)
       ·exact aj h
       ·exact Y (Y h)
      ·rintro (h|h|h)
       ·exact aj h
       ·exact aj h
       ·exact Y h
   ·obtain rfl:=J h;refine⟨fun y hy=>?_,fun n=>?_⟩
    ·simp only [O];constructor
     ·rintro (h|h)
      ·exact absurd (by rw [h]) hy
      ·exact h
     ·exact Y
    ·simp only [names,aI,O]
theorem vk:∀ (m:List Cn) (c:Cn),iB m->(kL m c=V↔∃ x∈m,x.1=c.1/\fK x.2 c.2=V)
 | [],c,_=>by simp [kL]
 | x::r,c,hr=>by
  obtain⟨h1,h2⟩:=U.1 hr;have e:=vk r c h2;simp only [kL]
  split
  ·rename_i hl
   rw [aT,e];constructor
   ·rintro⟨y,hy,h3⟩;exact⟨y,au _ hy,h3⟩
   ·rintro⟨y,hy,h3⟩;rcases O.1 hy with rfl|hy
    ·exact absurd h3.1 (uM hl)
    ·exact⟨y,hy,h3⟩
  ·rename_i hl
   split
   ·rename_i he
    rw [aT];constructor
    ·intro h;exact⟨x,aA ..,he,h⟩
    ·rintro⟨y,hy,h3,h4⟩;rcases O.1 hy with rfl|hy
     ·exact h4
     ·have h5:=h1 y hy;rw [he,h3,Vs.sw] at h5;cases h5
   ·rename_i he
    constructor
    ·intro h; cases h
    ·rintro⟨y,hy,h3,h4⟩;rcases O.1 hy with rfl|hy
     ·exact absurd h3 he
     ·have h5:=h1 y hy;rw [h3] at h5;exact absurd h5 hl
theorem Ip {m m' r:List Cn} {c:Cn} (hm:∀ n,n∈names m'↔n=c.1\/n∈names m) (hr:∀ y∈r,y.1≠c.1):fresh m' r=fresh m r:=by
 unfold fresh;refine List.countP_congr fun y hy=>?_;have h1:has m' y.1=has m y.1:=by
  rw [aC,uN,uN,hm];constructor
  ·rintro (h|h)
   ·exact absurd h (hr y hy)
   ·exact h
  ·exact Y
 rw [h1]
theorem Iq {m m' r:List Cn} {c:Cn} (hm:∀ x,x.1≠c.1->(x∈m'↔x∈m)) (hr:∀ y∈r,y.1≠c.1):Clear m' r↔Clear m r:=by
 constructor
 ·intro h x hx y hy e;exact h x ((hm x (by rw [e]; exact hr y hy)).2 hx) y hy e
 ·intro h x hx y hy e;exact h x ((hm x (by rw [e]; exact hr y hy)).1 hx) y hy e
theorem vB:∀ (r m:List Cn) (at_:Nat),iB m->iB r->m.length<=5->((∃ p,jg at_ m r=.ok p)↔uZ m r)
 | [],m,at_,_,_,h5=>by
  simp only [jg];exact⟨fun _=>⟨fun x _ y hy=>by simp at hy,by simpa [fresh] using h5⟩,fun _=>⟨m,rfl⟩⟩
 | c::r,m,at_,hm,hr,h5=>by
  have hh:=yC hr;have hr2:=(U.1 hr).2;simp only [jg];cases hi:kL m c with
  | none =>
   obtain⟨x,hx,e1,e2⟩:=(vk m c hm).1 hi;constructor
   ·rintro⟨p,hp⟩; cases hp
   ·intro h;exact absurd e2 (h.1 x hx c (aA ..) e1)
  | some m' =>
   have e1:=vg m c m' hm hi;obtain⟨e2,e3⟩:=Gs m c m' hm hi;have e4:=(kC m c m' hm hi).1;have e5:fresh m (c::r)=fresh m r+(if has m c.1 then 0 else 1):=by
    unfold fresh;rw [List.countP_cons];cases has m c.1 <;> rfl
   have e6:Clear m (c::r)↔Clear m r:=by
    constructor
    ·exact fun h x hx y hy=>h x hx y (au _ hy)
    ·intro h x hx y hy e;rcases O.1 hy with rfl|hy
     ·intro hn;have:=(vk m y hm).2 ⟨x,hx,e,hn⟩;rw [hi] at this;cases this
     ·exact h x hx y hy e
   simp only;by_cases h6:5<m'.length
   ·rw [if_pos h6];constructor
    ·rintro⟨p,hp⟩; cases hp
    ·intro h;have h7:=h.2;rw [e5] at h7;omega
   ·rw [if_neg h6,vB r m' (at_+1) e4 hr2 (by omega)];unfold uZ;rw [Iq e2 hh,Ip e3 hh,e6,e5,e1];constructor
    ·rintro⟨h7,h8⟩; exact⟨h7,by omega⟩
    ·rintro⟨h7,h8⟩; exact⟨h7,by omega⟩
theorem qI {a b:List Cn} (ha:iB a) (hb:iB b) (h5:a.length<=5):nR a b=Z↔uZ a b:=by
 rw [<- vB b a a.length ha hb h5];unfold nR;cases h:jg a.length a b with
 | ok p=>exact⟨fun _=>⟨p,rfl⟩,fun _=>rfl⟩
 | error e =>
  refine⟨fun h=>?_,?_⟩
  ·cases h
  ·rintro⟨p,hp⟩;cases hp
theorem KG (a b:Kd) (ha:fJ a=Z) (hb:fJ b=Z):fK a b=V->fK b a=V:=by
 intro h;cases h2:fK b a with
 | none=>rfl
 | some c =>
  obtain⟨c1,c2⟩:=yw b a c hb ha h2;obtain⟨v,hv⟩:=uW c c1;rw [c2,Bool.and_comm,yx a b h v] at hv;cases hv
theorem Ir {m r:List Cn} (gm:∀ c∈m,fJ c.2=Z) (gr:∀ c∈r,fJ c.2=Z) (h:Clear m r):Clear r m :=
 fun x hx y hy e hn=>h y hy x hx e.symm (KG _ _ (gr x hx) (gm y hy) hn)
theorem ng {α:Type} [DecidableEq α]:∀ (l m:List α),l.Nodup->(∀ x∈l,x∈m)->l.length<=m.length
 | [],m,_,_=>bW _
 | x::r,m,hn,hs=>by
  obtain⟨h1,h2⟩:=bI.1 hn;have hx:=hs x (aA ..);have h3:=ng r (m.erase x) h2 fun y hy=>(List.mem_erase_of_ne (by rintro rfl; exact h1 hy)).2 (hs y (au _ hy));rw [List.length_erase_of_mem hx] at h3;have:=List.length_pos_of_mem hx;simp only [aR];omega
def union (m r:List Cn):List ByteArray:=names m++(names r).filter fun n=>!has m n
theorem Iu (m r:List Cn):(union m r).length=m.length+fresh m r:=by
 unfold union fresh names;rw [aW,bJ,List.countP_eq_length_filter,List.filter_map,bJ]
 rfl
theorem yD (m r:List Cn) (n:ByteArray):n∈union m r↔n∈names m\/n∈names r:=by
 unfold union;rw [bF,bK];by_cases h:n∈names m
 ·exact⟨fun _=>aj h,fun _=>aj h⟩
 ·have h2:has m n=ay:=by
   cases h3:has m n
   ·rfl
   ·exact absurd ((uN m n).1 h3) h
  rw [h2];simp
theorem Bu {m r:List Cn} (hm:iB m) (hr:iB r):(union m r).Nodup:=by
 unfold union;rw [List.nodup_append];refine⟨oM hm,(oM hr).filter _,fun a ha b hb e=>?_⟩;have h2:=(bK.1 hb).2;rw [<- e,(uN m a).2 ha] at h2;cases h2
theorem uZ.symm {m r:List Cn} (hm:iB m) (hr:iB r) (gm:∀ c∈m,fJ c.2=Z) (gr:∀ c∈r,fJ c.2=Z) (h:uZ m r):uZ r m:=by
 refine⟨Ir gm gr h.1,?_⟩;have h2:=h.2;rw [<- Iu] at h2 ⊢;exact aY (ng _ _ (Bu hr hm) fun n hn=>(yD m r n).2 ((yD r m n).1 hn).symm) h2
/-! ### match -/
theorem VT {l:List Cn} (h:iB l) {x y:Cn} (hx:x∈l) (hy:y∈l) (e:x.1=y.1):x=y:=by
 induction l with
 | nil=>cases hx
 | cons z r ih =>
  have h1:=yC h;have h2:=(U.1 h).2;rcases O.1 hx with rfl|hx2 <;> rcases O.1 hy with rfl|hy2
  ·rfl
  ·exact absurd e.symm (h1 y hy2)
  ·exact absurd e (h1 x hx2)
  ·exact ih h2 hx2 hy2
/-! ### cover -/
def iI:Kd->Kd->Bool
 | .rg p q,.rg r s=>decide (r<=p) && decide (q<=s)
 | .tx s,.tx t=>s.data.toList == t.data.toList
 | .tx s,.pr t=>pfx t s
 | .pr s,.pr t=>pfx t s
 | _,_=>ay
theorem zZ (k:Kd):iI k k=Z:=by
 cases k <;> simp [iI,lH]
theorem qB (a b:Kd) (h:iI a b=Z) (v:V3) (hv:dZ a v=Z):dZ b v=Z:=by
 obtain⟨t,n,u⟩:=v;cases a <;> cases b <;> simp only [iI,D,decide_eq_true_eq,beq_iff_eq] at h <;> simp only [dZ,D,decide_eq_true_eq,beq_iff_eq] at hv ⊢
 ·exact⟨hv.1,by omega,by omega⟩
 ·cases h
 ·cases h
 ·cases h
 ·exact⟨hv.1,hv.2.trans h⟩
 ·exact⟨hv.1,by rw [fA,hv.2,<- fA]; exact h⟩
 ·cases h
 ·cases h
 ·exact⟨hv.1,(fA _ _).2 (((fA _ _).1 h).trans ((fA _ _).1 hv.2))⟩
theorem xO (a b:Kd) (ha:fJ a=Z) (h:∀ v,dZ a v=Z->dZ b v=Z):iI a b=Z:=by
 cases a with
 | rg p q =>
  simp only [fJ,decide_eq_true_eq] at ha;have h1:=h (ay,p,⟨#[]⟩) (by rw [uX]; simp [ha]);have h2:=h (ay,q,⟨#[]⟩) (by rw [uX]; simp [ha]);cases b with
  | rg r s =>
   rw [uX] at h1 h2;simp only [D,decide_eq_true_eq] at h1 h2;simp [iI,h1.1,h2.2]
  | tx t=>simp [dZ] at h1
  | pr t=>simp [dZ] at h1
 | tx s =>
  have h1:=h (Z,0,s) (by rw [kU]; simp);cases b with
  | rg r t=>rw [pU] at h1; cases h1
  | tx t=>rw [kU] at h1; exact h1
  | pr t=>rw [ku] at h1; exact h1
 | pr s =>
  have h1:=h (Z,0,s) (by rw [ku]; exact lH s);cases b with
  | rg r t=>rw [pU] at h1; cases h1
  | tx t =>
   have h2:=h (Z,0,more s) (by rw [ku]; exact Bp s);rw [kU,beq_iff_eq] at h1 h2;rw [<- h1] at h2;have h3:=congrArg bY h2;simp [more] at h3
  | pr t=>rw [ku] at h1; exact h1
def mG (a b:List Cn):Bool:=a.all fun x=>b.any fun y=>decide (y.1=x.1) && iI y.2 x.2
theorem Ej (a b:List Cn):mG a b=Z↔∀ x∈a,∃ y∈b,y.1=x.1/\iI y.2 x.2=Z:=by
 simp only [mG,bg,bC,D,decide_eq_true_eq]
theorem Bv (a:List Cn):mG a a=Z:=(Ej a a).2 fun x hx=>⟨x,hx,rfl,zZ _⟩
theorem Iw (a:List Cn) (h5:a.length<=5):uZ [] a:=by
 refine⟨fun x hx=>by simp at hx,?_⟩;have:fresh [] a<=a.length:=List.countP_le_length;simp only [List.length_nil];omega
end Rl
end Go.Proofs.YtghlpefopidlaaaGreat
