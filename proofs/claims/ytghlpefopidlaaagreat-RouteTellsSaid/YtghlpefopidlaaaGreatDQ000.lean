/-
  Rows of elements of . Conditions as told.
-/
import Derived.Test.YtghlpefopidlaaaGreatDQHq
import Derived.Test.YtghlpefopidlaaaGreatProg
import Derived.WalkKit
import Derived.ProofKit
import Derived.Laws.AppendOwn
import Derived.Laws.OwnMore
import Derived.Laws.MakeOwn
import Derived.Laws.CopyRow
import Derived.Deep.Slices
import Derived.Deep.CutBlock
import Derived.Deep.Cut
import Derived.Lib.ItoaNum
import GoSem.Claim
import Derived.Laws.Strings
import Derived.RowKit
import Derived.Lib.AppendZerosOnto
import Derived.Lib.Overlaps
import Derived.Deep.RegionLaw
import Derived.Laws.Externs
import Derived.Orders
import Derived.WalkLawsBesides
import Derived.IntWalk
import Derived.ChangeSlices
import Derived.Below
import Derived.Lib.Bytealg
set_option maxRecDepth 100000
set_option maxHeartbeats 64000000
open _root_.Array renaming length_toList->aO,getD->aZ,getElem?_eq_some_iff->bL,getElem?_eq_getElem->dD
open _root_.Bool renaming and_eq_true->U,true->au,false->aH,eq_iff_iff->aV,true_and->cK
open _root_.Go renaming World->D,Value->J,TypeId->ah,Operand->aB,maxLen->dh,Addr->dB
open Go.Builtin renaming append_->aU,copy_->bH
open Go.ByteArray renaming toList_eq->bR
open Go.Ending renaming returned->bg
open Go.Instr renaming indexAt->aP,sliceAt->aX
open Go.IntKind renaming i64->aI
open Go.Lib renaming compareBytes->aG
open Go.Op renaming bytesLess->V
open Go.Oper renaming wp->cB
open Go.Proofs.Tryz renaming prog->X,underlying24->dG
open Go.Region renaming wanted->aC
open Go.Result renaming andThen->bf,andThen_ok->bY
open Go.Value renaming slice->aj,string->ay,int->aJ,pointer->bS
open Go.World renaming block_lt_of_cell?->bU
open _root_.Int renaming emod_lt_of_pos->dx
open _root_.List renaming getElem?_eq_some_iff->aD,length_take->aF,pairwise_cons->aM,append_assoc->aN,length_drop->aQ,getElem?_append_right->aR,length_append->aS,getElem?_append_left->aT,getElem?_eq_getElem->aW,mem_cons->aY,getElem?_take->bG,take_append_drop->bJ,size_toArray->bK,getD_eq_getElem?_getD->bN,take_of_length_le->bV,prefix_of_prefix_length_le->bZ,map_toArray->cu,eq_nil_of_length_eq_zero->cO,mem_cons_of_mem->cZ,mem_cons_self->dn,getElem?_drop->dw,map_cons->dH
open _root_.Nat renaming mul_le_mul_right->Z,min_eq_left->aA,add_mul->bD,le_refl->bF,lt_or_ge->bQ
open _root_.Option renaming some->O,none->Y
open Option.some renaming inj->ak
open _root_.Or renaming inl->aK,inr->aL
namespace Go.Proofs.YtghlpefopidlaaaGreat
namespace Rw
open Go.RowKit
structure Ek (α:Type) where
 t:ah
 ts:ah
 n:Nat
 bytes:Nat
 z:J
 val:α->J
 cells:α->List J
structure Ek.Ok {α:Type} (E:Ek α):Prop where
 hu:Tryz.prog.underlying E.ts=O (.slice E.t)
 info:∃ i,Tryz.prog.info? E.t=O i/\i.zero=O E.z/\i.size=E.n/\i.bytes=E.bytes
 zs:E.z.cells.size=E.n
 len:∀ x,(E.cells x).length=E.n
 one:∀ x,∀ u∈E.cells x,u.oneCell'=au
 pos:0<E.n
 few:E.bytes<=100000
 load:∀ (w:D) (p:dB) (x:α),(∀ j u,(E.cells x)[j]?=O u->w.cell? (p.add j)=O u)->(Instr.loadAt E.t (bS (O p))).run X w=.ok (E.val x) w
variable {α:Type} {E:Ek α}
def flat (E:Ek α):List α->List J
 | []=>[]
 | x::j=>E.cells x++flat E j
theorem gM:∀ a b:List α,flat E (a++b)=flat E a++flat E b
 | [],b=>rfl
 | x::j,b=>by simp [flat,gM j b]
theorem UJ (x:α):flat E [x]=E.cells x:=by simp [flat]
theorem eO (K:E.Ok):∀ l:List α,(flat E l).length=l.length * E.n
 | []=>by simp [flat]
 | x::j=>by simp [flat,eO K j,K.len x,bD]; omega
theorem oH (K:E.Ok):∀ l:List α,∀ j∈flat E l,j.oneCell'=au
 | [],j,h=>by cases h
 | x::q,j,h=>by
  simp only [flat,List.mem_append] at h;rcases h with h|h
  ·exact K.one x j h
  ·exact oH K q j h
theorem D7 (K:E.Ok):∀ (l:List α) (m:Nat) (x:α),l[m]?=O x->∀ j,j<E.n->(flat E l)[m * E.n+j]?=(E.cells x)[j]?
 | [],m,x,h,_,_=>by simp at h
 | y::r,0,x,h,j,q=>by
  simp at h;subst h;simp only [flat];rw [Nat.zero_mul,Nat.zero_add,aT (by rw [K.len]; exact q)]
 | y::r,m+1,x,h,j,q=>by
  have u:=D7 K r m x (by simpa using h) j q;simp only [flat];rw [aR (by rw [K.len,bD]; omega),K.len,show (m+1) * E.n+j-E.n=m * E.n+j by rw [bD]; omega];exact u
theorem add_add (a:dB) (i j:Nat):(a.add i).add j=a.add (i+j):=by
 unfold Addr.add;by_cases q:i=0 <;> by_cases r:j=0 <;> simp [q,r,Nat.add_assoc]
theorem add_block (a:dB) (i:Nat):(a.add i).block=a.block:=by unfold Addr.add; split <;> rfl
theorem mO (g j:Nat):(⟨g,0,Y⟩:dB).add j=⟨g,j,Y⟩:=by unfold Addr.add; split <;> simp_all
theorem add_pos (p:dB) (j:Nat) (h:j≠0):p.add j=⟨p.block,p.off+j,Y⟩:=by unfold Addr.add; rw [if_neg h]
theorem add_zero (p:dB):p.add 0=p:=by unfold Addr.add; simp
theorem lt_of_heap {w:D} {b:Nat} {o:Obj} (h:w.heap[b]?=O o):b<w.heap.size:=by
 rcases bQ b w.heap.size with j|j
 ·exact j
 ·simp [Array.getElem?_eq_none j] at h
theorem uJ (w:D) (row:Option Nat):w.grownBy w row:=⟨rfl,rfl,rfl,bF _,fun _ _ _=>rfl⟩
def Row (E:Ek α) (W:D) (v:J) (l:List α):Prop :=
 (l=[]/\v=aj Y 0 0)\/∃ (a:dB) (cap:Nat),v=aj (O a) l.length cap/\l.length<=cap/\cap<=dh/\∀ j q,(flat E l)[j]?=O q->W.cell? (a.add j)=O q
theorem Row.on {W j:D} {v:J} {l:List α} (h:Row E W v l) (H:Below W.heap.size W j):Row E j v l:=by
 rcases h with h|⟨a,cap,r,u,F,G⟩
 ·exact aK h
 ·exact aL ⟨a,cap,r,u,F,fun M N I=>by
   have q:=G M N I;rw [H.cell (bU W _ q)]; exact q⟩
theorem Row.len {W:D} {v:J} {l:List α} (h:Row E W v l):∃ j cap,v=aj j l.length cap:=by
 rcases h with⟨rfl,rfl⟩|⟨a,cap,rfl,_⟩
 ·exact⟨Y,0,rfl⟩
 ·exact⟨_,cap,rfl⟩
theorem Row.most {W:D} {v:J} {l:List α} (h:Row E W v l):l.length<=dh:=by
 rcases h with⟨rfl,rfl⟩|⟨a,cap,rfl,j,q,_⟩
 ·exact Nat.zero_le _
 ·omega
theorem jK (W:D):Row E W (aj Y 0 0) ([]:List α):=aK ⟨rfl,rfl⟩
abbrev Own (E:Ek α) (W:D) (B:Nat) (v:J) (l:List α):Prop:=W.ownsRow B E.t E.n v l.length (flat E l)
theorem Row.dL {W:D} {B:Nat} {v:J} {l:List α} (h:Own E W B v l):Row E W v l:=by
 rcases h.2 with⟨j,q⟩|⟨g,cap,cur,j,q,I,r,u,M,N⟩
 ·exact aK ⟨cO q,j⟩
 ·exact aL ⟨⟨g,0,Y⟩,cap,j,r,u,fun G H F=>h.cells (g:=g) (by rw [j]; rfl) G H F⟩
theorem dK {W q:D} {B k:Nat} {e:ah} {v:J} {n:Nat} {u:List J} (h:W.ownsRow B e k v n u) (H:Below W.heap.size W q):q.ownsRow B e k v n u:=by
 refine⟨h.1,?_⟩;rcases h.2 with j|⟨g,cap,cur,F,j,r,G⟩
 ·exact aK j
 ·exact aL ⟨g,cap,cur,F,j,by rw [H.block _ (lt_of_heap r)]; exact r,G⟩
theorem sU {W:D} {B B' k:Nat} {e:ah} {v:J} {n:Nat} {q:List J} (hB:B'<=B) (h:W.ownsRow B e k v n q):W.ownsRow B' e k v n q:=by
 refine⟨h.1,?_⟩;rcases h.2 with j|⟨g,cap,cur,r,j,u⟩
 ·exact aK j
 ·exact aL ⟨g,cap,cur,r,Nat.le_trans hB j,u⟩
theorem iR (W:D) (B:Nat):Own E W B (aj Y 0 0) ([]:List α):=World.ownsRow_nil _ _ _ _
theorem Aq (K:E.Ok) (a:dB) (m len cap:Nat) (h:m<len) (w:D):(aP E.ts (aj (O a) len cap) (aJ aI m)).run X w=.ok (bS (O (a.add (m * E.n)))) w:=by
 have j:(m:Int)<len:=by omega
 obtain⟨i,q,r,i3,u⟩:=K.info;simp [go_sem,K.hu,sizeOf,typeInfo,j,q,i3]
theorem oI (K:E.Ok) (g m len cap:Nat) (h:m<len) (w:D):(aP E.ts (aj (O ⟨g,0,Y⟩) len cap) (aJ aI m)).run X w=.ok (bS (O ⟨g,m * E.n,Y⟩)) w:=by
 rw [Aq K ⟨g,0,Y⟩ m len cap h w,mO]
theorem qR (K:E.Ok) {W:D} {v:J} {l:List α} {u:OA} {n c k:Nat} {x:α} (h:Row E W v l) (T:v=aj u n c) (a7:l.length=n) (F:l[k]?=O x) :
  ∃ p:dB,(∀ w,(aP E.ts (aj u n c) (aJ aI k)).run X w=.ok (bS (O p)) w)/\p.block<W.heap.size/\∀ w,Below W.heap.size W w->∀ q j,(E.cells x)[q]?=O j->w.cell? (p.add q)=O j:=by
 have N:=(aD.1 F).1;rcases h with⟨rfl,_⟩|⟨a,cap,G,a2,a6,I⟩
 ·simp at F
 ·rw [T] at G;obtain⟨rfl,rfl,rfl⟩:u=O a/\n=l.length/\c=cap:=by simpa using G
  have g:∀ q j,(E.cells x)[q]?=O j->W.cell? ((a.add (k * E.n)).add q)=O j:=fun q j r=>by
   have M:q<E.n:=by have:=(aD.1 r).1; rw [K.len] at this; exact this
   rw [add_add];exact I _ j ((D7 K l k x F q M).trans r)
  have S:=K.pos;have H:(a.add (k * E.n)).block<W.heap.size:=by
   obtain⟨j,hu⟩:∃ j,(E.cells x)[0]?=O j:=⟨_,aW (by rw [K.len]; exact S)⟩;have:=bU W _ (g 0 j hu)
   rwa [add_zero] at this
  exact⟨a.add (k * E.n),fun w=>Aq K a k _ _ N w,H,fun w a1 q j r=>by
   rw [a1.cell (by rw [add_block]; exact H)];exact g q j r⟩
theorem kI (K:E.Ok) (a:dB) (k len cap:Nat) (h:k<=cap) (w:D):(aX E.ts (aj (O a) len cap) Y (O (aJ aI k)) Y).run X w=.ok (aj (O a) k cap) w:=by
 have j:(k:Int)<=cap:=by omega
 obtain⟨i,q,r,i3,u⟩:=K.info;simp [go_sem,K.hu,sizeOf,typeInfo,j,q,i3]
theorem zi (K:E.Ok) (a:dB) (k len cap:Nat) (h:k<=len) (w:D):(aX E.ts (aj (O a) len cap) (O (aJ aI k)) Y Y).run X w=.ok (aj (O (if cap=k then a else a.add (k * E.n))) (len-k) (cap-k)) w:=by
 have j:(k:Int)<=len:=by omega
 obtain⟨i,r,u,i3,F⟩:=K.info;by_cases q:cap=k
 ·subst q;simp [go_sem,K.hu,sizeOf,typeInfo,j,r,i3]
 ·simp [go_sem,K.hu,sizeOf,typeInfo,j,q,r,i3]
theorem yK (K:E.Ok) {W:D} {v:J} {l:List α} (h:Row E W v l) (k:Nat) (q:k<=l.length):∃ lo,(∀ w,(aX E.ts v Y (O (aJ aI k)) Y).run X w=.ok lo w)/\Row E W lo (l.take k):=by
 rcases h with⟨rfl,rfl⟩|⟨a,cap,rfl,I,r,u⟩
 ·obtain rfl:k=0:=by simpa using q
  obtain⟨i,F,M,i3,N⟩:=K.info;exact⟨aj Y 0 0,fun w=>by simp [go_sem,K.hu,sizeOf,typeInfo,F],aK ⟨rfl,rfl⟩⟩
 ·refine⟨_,kI K a k _ _ (by omega),aL ⟨a,cap,by rw [aF,aA q],by simp; omega,r,fun G H j=>u G H ?_⟩⟩
  conv=>lhs; rw [<- bJ k l,gM]
  exact aT (aD.1 j).1 ▸ j
theorem qU (K:E.Ok) {W:D} {v:J} {l:List α} (h:Row E W v l) (k:Nat) (j:k<=l.length):∃ r,(∀ w,(aX E.ts v (O (aJ aI k)) Y Y).run X w=.ok r w)/\Row E W r (l.drop k):=by
 rcases h with⟨rfl,rfl⟩|⟨a,cap,rfl,S,T,H⟩
 ·obtain rfl:k=0:=by simpa using j
  obtain⟨i,M,a2,i3,a6⟩:=K.info;exact⟨aj Y 0 0,fun w=>by simp [go_sem,K.hu,sizeOf,typeInfo,M],aK ⟨rfl,rfl⟩⟩
 ·refine⟨_,zi K a k _ _ j,aL ⟨_,cap-k,by rw [aQ],by rw [aQ]; omega,by omega,fun G N u=>?_⟩⟩;have F:=(aD.1 u).1;have I:(l.drop k)≠[]:=by rintro e; rw [e] at F; simp [flat] at F
  have a1:k<l.length:=by
   rcases bQ k l.length with q|q
   ·exact q
   ·exact absurd (List.drop_eq_nil_of_le q) I
  rw [if_neg (by omega),add_add];refine H _ N ?_
  conv=>lhs; rw [<- bJ k l,gM]
  rw [aR (by rw [eO K,aF,aA j]; omega),eO K,aF,aA j,show k * E.n+G-k * E.n=G by omega];exact u
theorem iC (K:E.Ok) {w:D} (B:Nat) {v x:J} {l m:List α} (q:Own E w B v l) (I:Row E w x m) (a8:l.length<=1000) (a7:m.length<=1000) (hB:B<=w.heap.size) (r:ah) :
  ∃ j w',(aU #[E.ts,E.ts] r #[v,x]).run X w=.ok j w'/\Own E w' B j (l++m)/\w.grownBy w' v.ownBlock:=by
 obtain⟨i,u,M,i3,N⟩:=K.info;rcases I with⟨rfl,rfl⟩|⟨F,c,rfl,a2,a6,G⟩
 ·exact⟨v,w,run_append_owned_none (P:=X) (w:=w) B E.ts r E.t i E.n K.hu u v _ _ q,by simpa using q,uJ _ _⟩
 ·have H:=K.few;obtain⟨j,w',S,T,a1,_⟩:=run_append_own (P:=X) w B E.ts r E.t i E.z E.n E.bytes K.hu u M i3 N K.zs K.pos v _ _ q F m.length c (flat E m) (eO K m) G (oH K m) (by unfold dh; omega)
   (Nat.le_trans (Nat.mul_le_mul (show l.length+m.length<=2000 by omega) H) (by decide)) hB
  exact⟨j,w',S,by rw [Own,aS,gM]; exact T,a1⟩
theorem jL (K:E.Ok) (w:D) (l:List α) (n:Nat) (r:n=l.length) (u:l.length<=1000) (cs:Array J) (j:cs.toList=flat E l):Own E (w.alloc (.cells cs E.t)) w.heap.size (aj (O ⟨w.heap.size,0,Y⟩) n n) l:=by
 subst r;have q:cs.size=l.length * E.n:=by rw [<- eO K,<- j,aO]
 refine⟨eO K l,aL ⟨w.heap.size,l.length,cs,rfl,bF _,?_,bF _,by unfold dh; omega,q,?_⟩⟩
 ·show (w.heap.push _)[w.heap.size]?=_;simp
 ·rw [<- j,bV (by rw [aO,q]; exact bF _)]
theorem MJ (w:D):Own E (w.alloc (.cells #[] E.t)) w.heap.size (aj (O ⟨w.heap.size,0,Y⟩) 0 0) ([]:List α):=by
 have h:=World.ownsRow_made (base:=w.heap.size) (e:=E.t) (size:=E.n) w #[] 0 (bF _) (by decide) (by simp);simpa [Own,flat] using h
def dN (W:D) (b:Nat) (cs:Array J) (t:ah):Prop:=W.heap[b]?=O (.cells cs t (0,0))
theorem dN.cell {W:D} {b:Nat} {cs:Array J} {t:ah} (h:dN W b cs t) (k:Nat):W.cell? ⟨b,k,Y⟩=cs[k]?:=by
 unfold dN at h;simp [World.cell?,h]
theorem dN.fr {W:D} {b:Nat} {cs:Array J} {t:ah} (h:dN W b cs t) (k:Nat):W.frozen? ⟨b,k,Y⟩=aH:=by
 unfold dN at h;simp [World.frozen?,h]
theorem dN.cs2 {W:D} {b:Nat} {t:ah} {a0 j:J} (h:dN W b #[a0,j] t):W.cell? ⟨b,0,Y⟩=O a0/\W.cell? ⟨b,1,Y⟩=O j:=⟨h.cell 0,h.cell 1⟩
theorem dN.cs3 {W:D} {b:Nat} {t:ah} {a0 j q:J} (h:dN W b #[a0,j,q] t):W.cell? ⟨b,0,Y⟩=O a0/\W.cell? ⟨b,1,Y⟩=O j/\W.cell? ⟨b,2,Y⟩=O q:=⟨h.cell 0,h.cell 1,h.cell 2⟩
theorem dN.Ib {W:D} {b:Nat} {t:ah} {a0 j q a3:J} (h:dN W b #[a0,j,q,a3] t):W.cell? ⟨b,0,Y⟩=O a0/\W.cell? ⟨b,1,Y⟩=O j/\W.cell? ⟨b,2,Y⟩=O q/\W.cell? ⟨b,3,Y⟩=O a3:=⟨h.cell 0,h.cell 1,h.cell 2,h.cell 3⟩
theorem dN.cs5 {W:D} {b:Nat} {t:ah} {a0 j q a3 a4:J} (h:dN W b #[a0,j,q,a3,a4] t):W.cell? ⟨b,0,Y⟩=O a0/\W.cell? ⟨b,1,Y⟩=O j/\W.cell? ⟨b,2,Y⟩=O q/\W.cell? ⟨b,3,Y⟩=O a3/\W.cell? ⟨b,4,Y⟩=O a4:=⟨h.cell 0,h.cell 1,h.cell 2,h.cell 3,h.cell 4⟩
theorem dN.fA {W:D} {b:Nat} {t:ah} {a0 j q a3 a4 a5:J} (h:dN W b #[a0,j,q,a3,a4,a5] t):W.cell? ⟨b,0,Y⟩=O a0/\W.cell? ⟨b,1,Y⟩=O j/\W.cell? ⟨b,2,Y⟩=O q/\W.cell? ⟨b,3,Y⟩=O a3/\W.cell? ⟨b,4,Y⟩=O a4/\W.cell? ⟨b,5,Y⟩=O a5:=⟨h.cell 0,h.cell 1,h.cell 2,h.cell 3,h.cell 4,h.cell 5⟩
theorem dN.oz {W:D} {b:Nat} {t:ah} {a0 j q a3 a4 a5 r:J} (h:dN W b #[a0,j,q,a3,a4,a5,r] t):W.cell? ⟨b,0,Y⟩=O a0/\W.cell? ⟨b,1,Y⟩=O j/\W.cell? ⟨b,2,Y⟩=O q/\W.cell? ⟨b,3,Y⟩=O a3/\W.cell? ⟨b,4,Y⟩=O a4/\W.cell? ⟨b,5,Y⟩=O a5/\W.cell? ⟨b,6,Y⟩=O r:=⟨h.cell 0,h.cell 1,h.cell 2,h.cell 3,h.cell 4,h.cell 5,h.cell 6⟩
theorem dN.fs2 {W:D} {b:Nat} {cs:Array J} {t:ah} (h:dN W b cs t):W.frozen? ⟨b,0,Y⟩=aH/\W.frozen? ⟨b,1,Y⟩=aH:=⟨h.fr 0,h.fr 1⟩
theorem dN.fs4 {W:D} {b:Nat} {cs:Array J} {t:ah} (h:dN W b cs t):W.frozen? ⟨b,0,Y⟩=aH/\W.frozen? ⟨b,1,Y⟩=aH/\W.frozen? ⟨b,2,Y⟩=aH/\W.frozen? ⟨b,3,Y⟩=aH:=⟨h.fr 0,h.fr 1,h.fr 2,h.fr 3⟩
theorem dN.kg {W:D} {b:Nat} {cs:Array J} {t:ah} (h:dN W b cs t):W.frozen? ⟨b,0,Y⟩=aH/\W.frozen? ⟨b,1,Y⟩=aH/\W.frozen? ⟨b,2,Y⟩=aH/\W.frozen? ⟨b,3,Y⟩=aH/\W.frozen? ⟨b,4,Y⟩=aH/\W.frozen? ⟨b,5,Y⟩=aH:=⟨h.fr 0,h.fr 1,h.fr 2,h.fr 3,h.fr 4,h.fr 5⟩
theorem dN.fs7 {W:D} {b:Nat} {cs:Array J} {t:ah} (h:dN W b cs t):W.frozen? ⟨b,0,Y⟩=aH/\W.frozen? ⟨b,1,Y⟩=aH/\W.frozen? ⟨b,2,Y⟩=aH/\W.frozen? ⟨b,3,Y⟩=aH/\W.frozen? ⟨b,4,Y⟩=aH/\W.frozen? ⟨b,5,Y⟩=aH/\W.frozen? ⟨b,6,Y⟩=aH:=⟨h.fr 0,h.fr 1,h.fr 2,h.fr 3,h.fr 4,h.fr 5,h.fr 6⟩
theorem dN.lt {W:D} {b:Nat} {cs:Array J} {t:ah} (h:dN W b cs t):b<W.heap.size:=lt_of_heap h
theorem dN.on {W j:D} {b:Nat} {cs:Array J} {t:ah} (h:dN W b cs t) (q:Below W.heap.size W j):dN j b cs t:=by
 have r:=h.lt;unfold dN at *;rw [q.block _ r]; exact h
theorem dN.more {W:D} {b:Nat} {cs:Array J} {t:ah} (h:dN W b cs t) (o:Obj):dN (W.alloc o) b cs t:=h.on ((Below.refl _ _).alloc (bF _) _)
theorem dR (W:D) (cs:Array J) (t:ah):dN (W.alloc (.cells cs t)) W.heap.size cs t:=by
 unfold dN;show (W.heap.push _)[W.heap.size]?=_;simp
theorem wpList_append_run {P:Program} {ops:Array Oper} {j:List Oper} {o:Oper} {a:Act} {Q:Exit->Act->D->Prop} {w w':D} (u:o.guard=Y) (s x:aB) (t:ah)
  (F:o.op=.call { callee:=.builtin .append,args:=#[s,x],argTypes:=#[t,t] }) {v xv q:J} (H:a.eval s=v) (I:a.eval x=xv) (G:(aU #[t,t] o.type #[v,xv]).run P w=.ok q w')
  (h:wpList P ops Q j (a.put o.dst q) w'):wpList P ops Q (o::j) a w:=by
 refine wpList_plain u fun K r=>?_;unfold cB execOp;simp only [F,resolve,invoke,builtin,Sem.run_bind,Sem.run_pure,bY,cu,dH,List.map_nil,H,I,G];exact r _ _ h
def kW (k:Nat):Code->Option Code
 | .block id c=>if id=k then O (.block id c) else kW k c
 | .seq a b=>match kW k a with
  | some c=>O c
  | none=>kW k b
 | .cond _ a b=>match kW k a with
  | some c=>O c
  | none=>kW k b
 | .loop c=>kW k c
 | .scope c=>kW k c
 | _=>Y
def eX (k:Nat):Code->Option Code
 | .region id ops d=>if id=k then O (.region id ops d) else Y
 | .seq a b=>match eX k a with
  | some c=>O c
  | none=>eX k b
 | .cond _ a b=>match eX k a with
  | some c=>O c
  | none=>eX k b
 | .block _ c=>eX k c
 | .loop c=>eX k c
 | .scope c=>eX k c
 | _=>Y
end Rw
namespace Nm
open Go.RowKit Rw
def EI:Ek Int:=⟨3,24,1,8,aJ aI 0,fun n=>.int aI n,fun n=>[aJ aI n]⟩
theorem aif:(Tryz.prog.info? 3).map (fun i=>(i.zero,i.size,i.bytes))=O (O (aJ aI 0),1,8):=by kernel_rfl
theorem UY:EI.Ok where
 hu:=dG
 info:=by
  have h:=aif;cases j:Tryz.prog.info? 3 with
  | none=>rw [j] at h; cases h
  | some i =>
   rw [j] at h;simp only [Option.map_some,Option.some.injEq,Prod.mk.injEq] at h;exact⟨i,j,h.1,h.2.1,h.2.2⟩
 zs:=rfl
 len:=fun _=>rfl
 one:=fun x r hu=>by
  simp only [EI,aY,List.not_mem_nil,or_false] at hu;rw [hu]
  rfl
 pos:=by decide
 few:=by decide
 load:=fun w p x h=>by
  have q:=h 0 _ rfl;rw [add_zero] at q;show (Instr.loadAt 3 (bS (O p))).run X w=.ok (aJ aI x) w;simp [go_sem,q]
abbrev sW (W:D) (v:J) (l:List Int):Prop:=Row EI W v l
abbrev zk (W:D) (B:Nat) (v:J) (l:List Int):Prop:=Own EI W B v l
theorem elI {W:D} {v:J} {l:List Int} {j:OA} {n c k:Nat} {x:Int} (h:sW W v l) (I:v=aj j n c) (H:l.length=n) (G:l[k]?=O x) :
  ∃ p:dB,(∀ w,(aP 24 (aj j n c) (aJ aI k)).run X w=.ok (bS (O p)) w)/\p.block<W.heap.size/\∀ w,Below W.heap.size W w->w.cell? p=O (aJ aI x):=by
 obtain⟨p,r,F,u⟩:=qR UY h I H G;exact⟨p,r,F,fun w M=>by
  have q:=u w M 0 _ rfl
  rwa [add_zero] at q⟩
theorem MW:∀ l:List Int,flat EI l=l.map (fun n=>.int aI n)
 | []=>rfl
 | x::j=>by
  show EI.cells x++flat EI j=_;rw [MW j]
  rfl
end Nm
namespace VaP
/-! ### the order of texts -/
theorem IJ:∀ x:List UInt8,V x x=aH
 | []=>rfl
 | a::x=>by simp [V,IJ x]
theorem Kw (a b:UInt8) (x y:List UInt8):V (a::x) (b::y)=au↔a.toNat<b.toNat\/(a.toNat=b.toNat/\V x y=au):=by
 simp only [V,Bool.or_eq_true,decide_eq_true_eq,U,beq_iff_eq,UInt8.lt_iff_toNat_lt];constructor
 ·rintro (h|⟨h,k⟩)
  ·exact aK h
  ·exact aL ⟨by rw [h],k⟩
 ·rintro (h|⟨h,k⟩)
  ·exact aK h
  ·exact aL ⟨UInt8.toNat_inj.1 h,k⟩
theorem Em:∀ x y z:List UInt8,V x y=au->V y z=au->V x z=au
 | _,[],_,h,_=>by cases ‹List UInt8› <;> simp [V] at h
 | _,_::_,[],_,k=>by simp [V] at k
 | [],_::_,_::_,_,_=>rfl
 | a::x,b::y,c::z,h,k=>by
  rw [Kw] at h k ⊢;rcases h with h|⟨h,j⟩ <;> rcases k with k|⟨k,q⟩
  ·exact aK (by omega)
  ·exact aK (by omega)
  ·exact aK (by omega)
  ·exact aL ⟨by omega,Em x y z j q⟩
theorem MN:∀ x y:List UInt8,V x y=au\/x=y\/V y x=au
 | [],[]=>aL (aK rfl)
 | [],_::_=>aK rfl
 | _::_,[]=>aL (aL rfl)
 | a::x,b::y=>by
  rw [Kw,Kw];rcases Nat.lt_trichotomy a.toNat b.toNat with h|h|h
  ·exact aK (aK h)
  ·rcases MN x y with k|k|k
   ·exact aK (aL ⟨h,k⟩)
   ·exact aL (aK (by rw [k,UInt8.toNat_inj.1 h]))
   ·exact aL (aL (aL ⟨h.symm,k⟩))
  ·exact aL (aL (aK h))
end VaP
namespace Pu
open Go.RowKit
def DL (c:UInt8):Bool:=decide (97<=c.toNat) && decide (c.toNat<=122)
def lV (s:ByteArray):Bool:=s.data.toList.all DL && (decide (1<=s.size) && decide (s.size<=12))
theorem IK (s:ByteArray) (k:Nat) (h:k<s.size) (j:DL s[k]=aH):lV s=aH:=by
 have:s.data.toList.all DL=aH:=by
  rw [List.all_eq_false];exact⟨s[k],by rw [Array.mem_toList_iff]; exact Array.getElem_mem h,by rw [j]; decide⟩
 simp [lV,this]
theorem UM (s:ByteArray) (h:∀ (j:Nat) (q:j<s.size),DL s[j]=au):lV s=(decide (1<=s.size) && decide (s.size<=12)):=by
 have:s.data.toList.all DL=au:=by
  rw [List.all_eq_true];intro c r;obtain⟨j,q,rfl⟩:=List.getElem_of_mem r;exact h j (by rw [aO] at q; exact q)
 simp [lV,this]
theorem vJ {a b:ByteArray} (h:a.toList=b.toList):a=b:=by
 rw [bR,bR] at h;exact WideShapes.bytes_inj h
theorem Sv {a b:ByteArray} (h:V a.toList b.toList=au):a≠b:=by
 rintro rfl;rw [VaP.IJ] at h; cases h
theorem ac9 {a b:ByteArray} (j:¬ V a.toList b.toList=au) (q:a≠b):V b.toList a.toList=au:=by
 rcases VaP.MN a.toList b.toList with h|h|h
 ·exact absurd h j
 ·exact absurd (vJ h) q
 ·exact h
end Pu
namespace Pr
open Go.RowKit Pu
inductive Kd where
 | rg (lo hi:Int)
 | tx (t:ByteArray)
 | pr (t:ByteArray)
abbrev Cn:=ByteArray×Kd
abbrev V3:=Bool×Int×ByteArray
def kN:Kd->Int
 | .rg _ _=>1
 | .tx _=>2
 | .pr _=>3
def kS:Kd->Int
 | .rg lo _=>lo
 | _=>0
def kU:Kd->Int
 | .rg _ j=>j
 | _=>0
def kT:Kd->ByteArray
 | .rg _ _=>⟨#[]⟩
 | .tx t=>t
 | .pr t=>t
def pfx (s t:ByteArray):Bool:=s.data.toList.isPrefixOf t.data.toList
theorem gJ (s t:ByteArray):pfx s t=au↔s.data.toList <+: t.data.toList:=List.isPrefixOf_iff_prefix
theorem qV (s:ByteArray):pfx s s=au:=(gJ s s).2 (List.prefix_refl _)
def jM:Kd->Bool
 | .rg lo j=>decide (lo<=j)
 | .tx t=>decide (t.size<=12)
 | .pr t=>decide (t.size<12)
def xV (c:Cn):Bool:=lV c.1 && jM c.2
def eZ:Kd->V3->Bool
 | .rg lo j,v=>!v.1 && (decide (lo<=v.2.1) && decide (v.2.1<=j))
 | .tx t,v=>v.1 && (v.2.2.data.toList == t.data.toList)
 | .pr t,v=>v.1 && pfx t v.2.2
def fI:Kd->Kd->Option Kd
 | .rg a b,.rg c d=>if max a c<=min b d then O (.rg (max a c) (min b d)) else Y
 | .tx s,.tx t=>if s.data.toList=t.data.toList then O (.tx s) else Y
 | .tx s,.pr t=>if pfx t s then O (.tx s) else Y
 | .pr s,.tx t=>if pfx s t then O (.tx t) else Y
 | .pr s,.pr t=>if pfx s t then O (.pr t) else if pfx t s then O (.pr s) else Y
 | _,_=>Y
theorem sV {s t:ByteArray} (h:s.data.toList=t.data.toList):s=t:=WideShapes.bytes_inj h
theorem UQ (a b c:Kd) (u:jM a=au) (F:jM b=au) (h:fI a b=O c):jM c=au/\∀ v,eZ c v=(eZ a v && eZ b v):=by
 cases a with
 | rg p H=>cases b with
  | rg G s =>
   simp only [fI] at h
   split at h
   ·rename_i r
    obtain rfl:=ak h;refine⟨by simpa [jM] using r,fun v=>?_⟩;obtain⟨t,n,I⟩:=v;cases t <;> simp only [eZ,Bool.not_true,Bool.not_false,Bool.false_and,cK];rw [aV];simp only [U,decide_eq_true_eq];omega
   ·cases h
  | tx t=>simp [fI] at h
  | pr t=>simp [fI] at h
 | tx p=>cases b with
  | rg G s=>simp [fI] at h
  | tx t =>
   simp only [fI] at h
   split at h
   ·rename_i r
    obtain rfl:=ak h;exact⟨u,fun v=>by simp [eZ,r]⟩
   ·cases h
  | pr t =>
   simp only [fI] at h
   split at h
   ·rename_i r
    obtain rfl:=ak h;refine⟨u,fun v=>?_⟩;rw [aV];simp only [eZ,U,beq_iff_eq];constructor
    ·rintro⟨j,q⟩;exact⟨⟨j,q⟩,j,by rw [gJ,q,<- gJ]; exact r⟩
    ·rintro⟨j,_⟩;exact j
   ·cases h
 | pr p=>cases b with
  | rg G s=>simp [fI] at h
  | tx t =>
   simp only [fI] at h
   split at h
   ·rename_i r
    obtain rfl:=ak h;refine⟨F,fun v=>?_⟩;rw [aV];simp only [eZ,U,beq_iff_eq];constructor
    ·rintro⟨j,q⟩;exact⟨⟨j,by rw [gJ,q,<- gJ]; exact r⟩,j,q⟩
    ·rintro⟨_,j⟩;exact j
   ·cases h
  | pr t =>
   simp only [fI] at h
   split at h
   ·rename_i r
    obtain rfl:=ak h;refine⟨F,fun v=>?_⟩;rw [aV];simp only [eZ,U];constructor
    ·rintro⟨j,q⟩;exact⟨⟨j,(gJ _ _).2 (((gJ _ _).1 r).trans ((gJ _ _).1 q))⟩,j,q⟩
    ·rintro⟨_,j⟩;exact j
   ·split at h
    ·rename_i _ r
     obtain rfl:=ak h;refine⟨u,fun v=>?_⟩;rw [aV];simp only [eZ,U];constructor
     ·rintro⟨j,q⟩;exact⟨⟨j,q⟩,j,(gJ _ _).2 (((gJ _ _).1 r).trans ((gJ _ _).1 q))⟩
     ·rintro⟨j,_⟩;exact j
    ·cases h
theorem UR (a b:Kd) (h:fI a b=Y) (v:V3):(eZ a v && eZ b v)=aH:=by
 obtain⟨w,n,S⟩:=v;rw [Bool.eq_false_iff];intro H;rw [U] at H;obtain⟨j,q⟩:=H;cases a with
 | rg p N=>cases b with
  | rg I s =>
   simp only [fI] at h
   split at h
   ·cases h
   ·rename_i M
    simp only [eZ,U,decide_eq_true_eq] at j q;omega
  | tx t=>simp only [eZ,U] at j q; rw [q.1] at j; cases j.1
  | pr t=>simp only [eZ,U] at j q; rw [q.1] at j; cases j.1
 | tx p=>cases b with
  | rg I s=>simp only [eZ,U] at j q; rw [j.1] at q; cases q.1
  | tx t =>
   simp only [eZ,U,beq_iff_eq] at j q;simp only [fI] at h;rw [if_pos (j.2.symm.trans q.2)] at h;cases h
  | pr t =>
   simp only [eZ,U,beq_iff_eq] at j q;simp only [fI] at h;rw [if_pos (by rw [gJ,<- j.2,<- gJ]; exact q.2)] at h;cases h
 | pr p=>cases b with
  | rg I s=>simp only [eZ,U] at j q; rw [j.1] at q; cases q.1
  | tx t =>
   simp only [eZ,U,beq_iff_eq] at j q;simp only [fI] at h;rw [if_pos (by rw [gJ,<- q.2,<- gJ]; exact j.2)] at h;cases h
  | pr t =>
   simp only [eZ,U] at j q;have u:=(gJ _ _).1 j.2;have F:=(gJ _ _).1 q.2;simp only [fI] at h;rcases Nat.le_total p.data.toList.length t.data.toList.length with r|r
   ·rw [if_pos ((gJ _ _).2 (bZ u F r))] at h;cases h
   ·by_cases G:pfx p t=au
    ·rw [if_pos G] at h; cases h
    ·rw [if_neg G,if_pos ((gJ _ _).2 (bZ F u r))] at h;cases h
theorem Qm (a:Kd) (h:jM a=au):∃ v,eZ a v=au:=by
 cases a with
 | rg lo j =>
  simp only [jM,decide_eq_true_eq] at h;exact⟨(aH,lo,⟨#[]⟩),by simp [eZ,h]⟩
 | tx t=>exact⟨(au,0,t),by simp [eZ]⟩
 | pr t=>exact⟨(au,0,t),by simp only [eZ,cK]; exact qV t⟩
theorem nI (t s:ByteArray):eZ (.pr t) (au,0,s)=pfx t s:=by simp only [eZ,cK]
theorem oZ (t s:ByteArray):eZ (.tx t) (au,0,s)=(s.data.toList == t.data.toList):=by simp only [eZ,cK]
theorem wT (a b:Int) (s:ByteArray):eZ (.rg a b) (au,0,s)=aH:=by simp only [eZ,Bool.not_true,Bool.false_and]
theorem Eo (a b n:Int):eZ (.rg a b) (aH,n,⟨#[]⟩)=(decide (a<=n) && decide (n<=b)):=by simp only [eZ,Bool.not_false,cK]
def more (t:ByteArray):ByteArray:=⟨(t.data.toList++[0]).toArray⟩
theorem MS (t:ByteArray):pfx t (more t)=au:=(gJ _ _).2 (List.prefix_append _ _)
theorem IL (p t:ByteArray) (h:∀ v,eZ (.tx p) v=eZ (.pr t) v):False:=by
 have j:=h (au,0,more t);have q:=h (au,0,t);rw [oZ,nI,MS,beq_iff_eq] at j;rw [oZ,nI,qV,beq_iff_eq] at q;rw [<- q] at j;have r:=congrArg List.length j;simp [more] at r
theorem Qn (a b:Kd) (u:jM a=au) (F:jM b=au) (h:∀ v,eZ a v=eZ b v):a=b:=by
 cases a with
 | rg p G=>cases b with
  | rg q s =>
   simp only [jM,decide_eq_true_eq] at u F;have le:∀ n,(p<=n/\n<=G)↔(q<=n/\n<=s):=fun n=>by
    have j:=h (aH,n,⟨#[]⟩);rw [Eo,Eo,aV,U,U,decide_eq_true_eq,decide_eq_true_eq,decide_eq_true_eq,decide_eq_true_eq] at j;exact j
   have j:=(le p).1 ⟨Int.le_refl _,u⟩;have r:=(le G).1 ⟨u,Int.le_refl _⟩;have M:=(le q).2 ⟨Int.le_refl _,F⟩;have N:=(le s).2 ⟨F,Int.le_refl _⟩;rw [show p=q by omega,show G=s by omega]
  | tx t=>have j:=h (au,0,t); rw [wT,oZ,beq_self_eq_true] at j; cases j
  | pr t=>have j:=h (au,0,t); rw [wT,nI,qV] at j; cases j
 | tx p=>cases b with
  | rg q s=>have j:=h (au,0,p); rw [wT,oZ,beq_self_eq_true] at j; cases j
  | tx t =>
   have j:=h (au,0,p);rw [oZ,oZ,beq_self_eq_true] at j;rw [sV (beq_iff_eq.1 j.symm)]
  | pr t=>exact (IL p t h).elim
 | pr p=>cases b with
  | rg q s=>have j:=h (au,0,p); rw [wT,nI,qV] at j; cases j
  | tx t=>exact (IL t p fun v=>(h v).symm).elim
  | pr t =>
   have j:=h (au,0,p);have r:=h (au,0,t);rw [nI,nI,qV] at j r;have H:=(gJ _ _).1 j.symm;have I:=(gJ _ _).1 r;rw [sV (I.eq_of_length_le H.length_le)]
/-! ### normal forms -/
def kX (l:List Cn):Prop:=l.Pairwise fun x y=>V x.1.toList y.1.toList=au
def qW:List Cn->Cn->Option (List Cn)
 | [],c=>O [c]
 | x::j,c=>if V x.1.toList c.1.toList=au then (qW j c).map (x::·) else if x.1=c.1 then (fI x.2 c.2).map (fun k=>(x.1,k)::j) else O (c::x::j)
def lG:Nat->List Cn->List Cn->Except (Int×Nat) (List Cn)
 | _,m,[]=>.ok m
 | at_,m,c::j=>match qW m c with
  | none=>.error (5,at_)
  | some m'=>if 5<m'.length then .error (7,at_) else lG (at_+1) m' j
def Ep (l:List Cn):Except (Int×Nat) (List Cn):=lG 0 [] l
theorem Ky:∀ (m:List Cn) (c:Cn),(∀ x∈m,V x.1.toList c.1.toList=au)->qW m c=O (m++[c])
 | [],c,_=>rfl
 | x::q,c,h=>by
  simp only [qW];rw [if_pos (h x (dn ..)),Ky q c (fun y j=>h y (cZ _ j))]
  rfl
theorem MU:∀ (p m:List Cn) (at_:Nat),kX (m++p)->(m++p).length<=5->lG at_ m p=.ok (m++p)
 | [],m,at_,_,_=>by simp [lG]
 | c::u,m,at_,h,j=>by
  have q:∀ x∈m,V x.1.toList c.1.toList=au:=fun x r=>(List.pairwise_append.1 h).2.2 x r c (dn ..);simp only [lG];rw [Ky m c q];simp only;rw [if_neg (by simp at j ⊢; omega),MU u (m++[c]) (at_+1) (by simpa using h) (by simpa using j)];simp
theorem UU (p:List Cn) (h:kX p) (j:p.length<=5):Ep p=.ok p:=by
 have:=MU p [] 0 (by simpa using h) (by simpa using j);simpa [Ep] using this
theorem BP:∀ (a b m m':List Cn) (at_:Nat),lG at_ m a=.ok m'->lG at_ m (a++b)=lG (at_+a.length) m' b
 | [],b,m,m',at_,h=>by
  simp only [lG] at h;injection h with h
  subst h;simp
 | c::j,b,m,m',at_,h=>by
  simp only [List.cons_append,lG] at h ⊢;cases q:qW m c with
  | none=>rw [q] at h; cases h
  | some n =>
   rw [q] at h;simp only at h ⊢
   split at h
   ·cases h
   ·rename_i r
    rw [if_neg r,BP j b n m' (at_+1) h];rw [List.length_cons,show at_+1+j.length=at_+(j.length+1) by omega]
theorem kY:∀ (m:List Cn) (c:Cn) (m':List Cn),kX m->qW m c=O m'->kX m'/\∀ y∈m',y.1=c.1\/∃ x∈m,x.1=y.1
 | [],c,m',_,h=>by
  obtain rfl:=ak h;exact⟨List.pairwise_singleton _ _,fun y j=>aK (by simp at j; rw [j])⟩
 | x::T,c,m',N,h=>by
  obtain⟨q,H⟩:=aM.1 N;simp only [qW] at h
  split at h
  ·rename_i F
   cases u:qW T c with
   | none=>rw [u] at h; cases h
   | some n =>
    rw [u] at h;obtain rfl:=ak h;obtain⟨a1,S⟩:=kY T c n H u;refine⟨aM.2 ⟨fun y j=>?_,a1⟩,fun y j=>?_⟩
    ·rcases S y j with e|⟨z,G,e⟩
     ·rw [e]; exact F
     ·rw [<- e]; exact q z G
    ·rcases aY.1 j with rfl|j
     ·exact aL ⟨y,dn ..,rfl⟩
     ·rcases S y j with e|⟨z,G,e⟩
      ·exact aK e
      ·exact aL ⟨z,cZ _ G,e⟩
  ·rename_i F
   split at h
   ·rename_i r
    cases I:fI x.2 c.2 with
    | none=>rw [I] at h; cases h
    | some k =>
     rw [I] at h;obtain rfl:=ak h;refine⟨aM.2 ⟨fun y j=>q y j,H⟩,fun y j=>?_⟩;rcases aY.1 j with rfl|j
     ·exact aK r
     ·exact aL ⟨y,cZ _ j,rfl⟩
   ·rename_i r
    obtain rfl:=ak h;have M:V c.1.toList x.1.toList=au:=ac9 F r;refine⟨aM.2 ⟨fun y j=>?_,N⟩,fun y j=>?_⟩
    ·rcases aY.1 j with rfl|j
     ·exact M
     ·exact VaP.Em _ _ _ M (q y j)
    ·rcases aY.1 j with rfl|j
     ·exact aK rfl
     ·exact aL ⟨y,j,rfl⟩
/-! ### what they say -/
end Pr
namespace Pr
open Go.RowKit Pu Rw
abbrev C5:=ByteArray×Int×Int×Int×ByteArray
abbrev cv (c:C5):J:=.agg #[ay c.1,aJ aI c.2.1,aJ aI c.2.2.1,aJ aI c.2.2.2.1,ay c.2.2.2.2]
def cells5 (c:C5):List J:=[ay c.1,aJ aI c.2.1,aJ aI c.2.2.1,aJ aI c.2.2.2.1,ay c.2.2.2.2]
def r5 (c:Cn):C5:=(c.1,kN c.2,kS c.2,kU c.2,kT c.2)
def EC:Ek C5:=⟨91,34,5,56,.agg #[ay ⟨#[]⟩,aJ aI 0,aJ aI 0,aJ aI 0,ay ⟨#[]⟩],cv,cells5⟩
theorem ail:(Tryz.prog.info? 91).map (fun i=>(i.zero,i.size,i.bytes))=O (O (.agg #[ay ⟨#[]⟩,aJ aI 0,aJ aI 0,aJ aI 0,ay ⟨#[]⟩]),5,56):=by kernel_rfl
theorem U8 (w:D) (p:dB) (c:C5) (h:∀ G H,(cells5 c)[G]?=O H->w.cell? (p.add G)=O H):(Instr.loadAt 91 (bS (O p))).run X w=.ok (cv c) w:=by
 have j:=h 0 _ rfl;have q:=h 1 _ rfl;have r:=h 2 _ rfl;have u:=h 3 _ rfl;have F:=h 4 _ rfl;simp [Addr.add] at j q r u F;simp [go_sem,j,q,r,u,F]
theorem wV:EC.Ok where
 hu:=Tryz.underlying34
 info:=by
  have h:=ail;cases j:Tryz.prog.info? 91 with
  | none=>rw [j] at h; cases h
  | some i =>
   rw [j] at h;simp only [Option.map_some,Option.some.injEq,Prod.mk.injEq] at h;exact⟨i,j,h.1,h.2.1,h.2.2⟩
 zs:=rfl
 len:=fun _=>rfl
 one:=fun x q hu=>by
  simp only [EC,cells5,aY,List.not_mem_nil,or_false] at hu;rcases hu with rfl|rfl|rfl|rfl|rfl <;> rfl
 pos:=by decide
 few:=by decide
 load:=fun w p x h=>U8 w p x h
abbrev fO (W:D) (v:J) (l:List C5):Prop:=Row EC W v l
abbrev iH (W:D) (B:Nat) (v:J) (l:List C5):Prop:=Own EC W B v l
theorem five {w:D} {p:dB} {c:C5} (h:∀ j q,(EC.cells c)[j]?=O q->w.cell? (p.add j)=O q) :
  w.cell? p=O (ay c.1)/\w.cell? ⟨p.block,p.off+1,Y⟩=O (aJ aI c.2.1)/\w.cell? ⟨p.block,p.off+2,Y⟩=O (aJ aI c.2.2.1)/\w.cell? ⟨p.block,p.off+3,Y⟩=O (aJ aI c.2.2.2.1)/\w.cell? ⟨p.block,p.off+4,Y⟩=O (ay c.2.2.2.2):=by
 have r:=h 0 _ rfl;rw [add_zero] at r;have g:∀ j q,j≠0->(EC.cells c)[j]?=O q->w.cell? ⟨p.block,p.off+j,Y⟩=O q:=fun j q u hu=>by
  rw [<- add_pos p j u]; exact h j q hu
 exact⟨r,g 1 _ (by decide) rfl,g 2 _ (by decide) rfl,g 3 _ (by decide) rfl,g 4 _ (by decide) rfl⟩
theorem XG {W:D} {v:J} {l:List C5} {j:OA} {n c k:Nat} {x:C5} (h:fO W v l) (G:v=aj j n c) (F:l.length=n) (u:l[k]?=O x) :
  ∃ p:dB,(∀ w,(aP 34 (aj j n c) (aJ aI k)).run X w=.ok (bS (O p)) w)/\∀ w,Below W.heap.size W w ->
   w.cell? p=O (ay x.1)/\w.cell? ⟨p.block,p.off+1,Y⟩=O (aJ aI x.2.1)/\w.cell? ⟨p.block,p.off+2,Y⟩=O (aJ aI x.2.2.1)/\w.cell? ⟨p.block,p.off+3,Y⟩=O (aJ aI x.2.2.2.1)/\w.cell? ⟨p.block,p.off+4,Y⟩=O (ay x.2.2.2.2):=by
 obtain⟨p,q,_,r⟩:=qR wV h G F u;exact⟨p,q,fun w H=>five (r w H)⟩
theorem loC {W:D} {v:J} {l:List C5} (h:fO W v l) (k:Nat) (j:k<=l.length):∃ lo,(∀ w,(aX 34 v Y (O (aJ aI k)) Y).run X w=.ok lo w)/\fO W lo (l.take k):=yK wV h k j
theorem hiC {W:D} {v:J} {l:List C5} (h:fO W v l) (k:Nat) (q:k<=l.length):∃ j,(∀ w,(aX 34 v (O (aJ aI k)) Y Y).run X w=.ok j w)/\fO W j (l.drop k):=qU wV h k q
theorem Ii {w:D} (B:Nat) {v x:J} {l m:List C5} (u:iH w B v l) (F:fO w x m) (r:l.length<=1000) (q:m.length<=1000) (hB:B<=w.heap.size) :
  ∃ j w',(aU #[34,34] 34 #[v,x]).run X w=.ok j w'/\iH w' B j (l++m)/\w.grownBy w' v.ownBlock:=iC wV B u F r q hB 34
theorem qZ (w:D):iH (w.alloc (.cells #[] 91)) w.heap.size (aj (O ⟨w.heap.size,0,Y⟩) 0 0) []:=MJ w
theorem ain:Tryz.prog.stoodInHeld 91=aH:=by kernel_rfl
def DN (x y:C5):Bool:=x.1.toList == y.1.toList && (x.2.1 == y.2.1 && (x.2.2.1 == y.2.2.1 && (x.2.2.2.1 == y.2.2.2.1 && x.2.2.2.2.toList == y.2.2.2.2.toList)))
theorem anQ (x y:C5) (j:Bool) (T:DN x y=j) (w:D):(binOp .neq 91 (cv x) (cv y)).run X w=.ok (.bool (!j)) w:=by
 have st:=ain;subst T;obtain⟨a,b,c,d,e⟩:=x;obtain⟨q,r,u,F,G⟩:=y;unfold DN;by_cases H:a.toList=q.toList <;> by_cases I:b=r <;> by_cases M:c=u <;> by_cases N:d=F <;> by_cases S:e.toList=G.toList <;> simp [go_sem,Tryz.underlying91,Tryz.underlying3,Tryz.underlying9,st,H,I,M,N,S]
theorem M8 (x y:C5):DN x y=au↔x=y:=by
 obtain⟨a,b,c,d,e⟩:=x;obtain⟨G,H,I,M,N⟩:=y;simp only [DN,U,beq_iff_eq,Prod.mk.injEq];constructor
 ·rintro⟨j,q,r,u,F⟩;exact⟨vJ j,q,r,u,vJ F⟩
 ·rintro⟨rfl,rfl,rfl,rfl,rfl⟩;exact⟨rfl,rfl,rfl,rfl,rfl⟩
end Pr
namespace Rw
open Go.RowKit
variable {α:Type} {E:Ek α}
theorem below_setRow {B g:Nat} {W w:D} (h:Below B W w) (hB:B<=g) (cs:Array J):Below B W (w.setRow g cs) :=
 ⟨h.os,h.tape,h.output,by simp [World.setRow]; exact h.size,fun k q=>by
  have r:g≠k:=by omega
  have j:=h.block k q;simp [World.setRow,Array.getElem?_modify,r,j]⟩
theorem dN.set {w:D} {g:Nat} {cur:Array J} {t:ah} (h:dN w g cur t) (cs:Array J):dN (w.setRow g cs) g cs t:=setRow_heap w g cur cs t (0,0) h
theorem dN.other {w:D} {g b:Nat} {cur:Array J} {t:ah} (h:dN w b cur t) (j:b≠g) (cs:Array J):dN (w.setRow g cs) b cur t:=(setRow_other w g b cs j).trans h
theorem dN.drew {w:D} {b:Nat} {cur:Array J} {t:ah} (h:dN w b cur t):dN w.drew b cur t:=h
theorem dN.shape {w:D} {b:Nat} {cur:Array J} {t:ah} (h:dN w b cur t):w.shape? b=O (t,cur.size):=by
 unfold dN at h;simp [World.shape?,h]
theorem gD {W:D} {B:Nat} {v:J} {l:List α} (h:Own E W B v l):(v=aj Y 0 0/\l=[])\/∃ g cap cur,v=aj (O ⟨g,0,Y⟩) l.length cap/\B<=g/\dN W g cur E.t/\l.length<=cap/\cap<=dh/\cur.size=cap * E.n/\cur.toList.take (l.length * E.n)=flat E l:=by
 rcases h.2 with⟨j,q⟩|⟨g,cap,cur,j,q,r,u,F,G,H⟩
 ·exact aK ⟨j,cO q⟩
 ·exact aL ⟨g,cap,cur,j,q,r,u,F,G,H⟩
theorem pF (K:E.Ok) {W:D} {B g cap n:Nat} {cur:Array J} {l:List α} (G:n=l.length) (hB:B<=g) (F:dN W g cur E.t) (j:n<=cap) (q:cap<=dh) (r:cur.size=cap * E.n) (u:cur.toList.take (n * E.n)=flat E l):Own E W B (aj (O ⟨g,0,Y⟩) n cap) l:=by
 subst G;exact⟨eO K l,aL ⟨g,cap,cur,rfl,hB,F,j,q,r,u⟩⟩
theorem qK (K:E.Ok) (l:List α) (k:Nat):(flat E l).take (k * E.n)=flat E (l.take k):=by
 rcases Nat.le_total k l.length with h|h
 ·conv=>lhs; rw [<- bJ k l,gM]
  have e:(flat E (l.take k)).length=k * E.n:=by rw [eO K,aF,aA h]
  rw [<- e,List.take_left]
 ·rw [bV h,bV];rw [eO K];exact Z _ h
theorem Au (K:E.Ok) (l:List α) (k:Nat):(flat E l).drop (k * E.n)=flat E (l.drop k):=by
 rcases Nat.le_total k l.length with h|h
 ·conv=>lhs; rw [<- bJ k l,gM]
  have e:(flat E (l.take k)).length=k * E.n:=by rw [eO K,aF,aA h]
  rw [<- e,List.drop_left]
 ·rw [List.drop_of_length_le h,List.drop_of_length_le]
  ·rfl
  rw [eO K];exact Z _ h
theorem zm (K:E.Ok) {W:D} {g:Nat} {cur:Array J} {t:ah} {l:List α} (u:dN W g cur t) (F:cur.toList.take (l.length * E.n)=flat E l) (k:Nat):∀ q r,(flat E (l.drop k))[q]?=O r->W.cell? ((⟨g,k * E.n,Y⟩:dB).add q)=O r:=by
 intro q r j;rw [Addr.add_lit,u.cell];rw [<- Au K,dw,<- F,bG] at j
 split at j
 ·simpa using j
 ·cases j
theorem uK {W:D} {b:Nat} {cs:Array J} {t:ah} {x:α} (u:dN W b cs t) (F:cs.toList=E.cells x):∀ j q,(flat E [x])[j]?=O q->W.cell? ((⟨b,0,Y⟩:dB).add j)=O q:=by
 intro j q r;rw [mO,u.cell];rw [UJ,<- F] at r;simpa using r
theorem iw (K:E.Ok) (g k len cap:Nat) (h:k<=len) (j:k<cap) (w:D):(aX E.ts (aj (O ⟨g,0,Y⟩) len cap) (O (aJ aI k)) Y Y).run X w=.ok (aj (O ⟨g,k * E.n,Y⟩) (len-k) (cap-k)) w:=by
 rw [zi K ⟨g,0,Y⟩ k len cap h w,if_neg (by omega),mO]
theorem zq (K:E.Ok) {w:D} {g o nd cd ns sc:Nat} {a:dB} {cur:Array J} {m:List α} (F:dN w g cur E.t) (H:∀ r u,(flat E m)[r]?=O u->w.cell? (a.add r)=O u) (G:min ns nd=m.length) (I:(o+m.length) * E.n<=cur.size) (S:ah) :
  (bH #[E.ts,E.ts] S #[aj (O ⟨g,o * E.n,Y⟩) nd cd,aj (O a) ns sc]).run X w=.ok (aJ aI m.length) (w.setRow g (cur.toList.take (o * E.n)++flat E m++cur.toList.drop ((o+m.length) * E.n)).toArray):=by
 obtain⟨i,M,T,i3,a1⟩:=K.info;have j:=run_loadCells_list (P:=X) w a (flat E m) H;have q:=run_storeCells_at X g (o * E.n) E.t (flat E m) 0 cur w F (by rw [eO K,Nat.add_zero,<- bD]; exact I) (oH K m);rw [eO K] at j;have e:o * E.n+0+(flat E m).length=(o+m.length) * E.n:=by rw [eO K,Nat.add_zero,bD]
 rw [e,Nat.add_zero] at q;simp [bH,run_underlying K.hu,Builtin.lenOf,Builtin.firstCells,sizeOf,typeInfo,M,i3,G,j,goInt];simpa using congrArg (fun N=>N.andThen fun _ w=>Result.ok (aJ aI m.length) w) q
/-! ### one element more, in the middle -/
section
variable {l:List α} {k cap:Nat} {cur cs:Array J} {c:α}
theorem sZ (K:E.Ok) (b4:k<l.length) (S:l.length+1<=cap) (G:cur.size=cap * E.n) (T:cur.toList.take (l.length * E.n)=flat E l) (g b:Nat) (_:b≠g) :
  ∃ I M:Array J,
   (∀ (W:D) (r:ah) (nd j ns sc:Nat),dN W g cur E.t->min ns nd=l.length-k->(bH #[E.ts,E.ts] r #[aj (O ⟨g,(k+1) * E.n,Y⟩) nd j,aj (O ⟨g,k * E.n,Y⟩) ns sc]).run X W=.ok (aJ aI ((l.length-k:Nat):Int)) (W.setRow g I)) /\
   (∀ (W:D) (r:ah) (nd j:Nat),dN W g I E.t->dN W b cs E.t->cs.toList=E.cells c->1<=nd->(bH #[E.ts,E.ts] r #[aj (O ⟨g,k * E.n,Y⟩) nd j,aj (O ⟨b,0,Y⟩) 1 1]).run X W=.ok (aJ aI 1) (W.setRow g M)) /\
   (∀ (W:D) (B:Nat),B<=g->cap<=dh->dN W g M E.t->Own E W B (aj (O ⟨g,0,Y⟩) (l.length+1) cap) (l.take k++c::l.drop k)):=by
 have F:(l.drop k).length=l.length-k:=by simp
 have b1:(cur.toList.take ((k+1) * E.n)++flat E (l.drop k)++cur.toList.drop ((k+1+(l.drop k).length) * E.n)).length=cap * E.n:=by
  have N:(k+1) * E.n<=cap * E.n:=Z _ (by omega);have a7:(k+1+(l.drop k).length) * E.n<=cap * E.n:=Z _ (by omega);simp only [aS,aF,aQ,aO,eO K,G];rw [aA N];have a8:(k+1+(l.drop k).length) * E.n=(k+1) * E.n+(l.drop k).length * E.n:=bD ..;simp only [aQ] at a7 a8 ⊢;omega
 refine⟨(cur.toList.take ((k+1) * E.n)++flat E (l.drop k)++cur.toList.drop ((k+1+(l.drop k).length) * E.n)).toArray,
  ((cur.toList.take ((k+1) * E.n)++flat E (l.drop k)++cur.toList.drop ((k+1+(l.drop k).length) * E.n)).take (k * E.n)++flat E [c]++(cur.toList.take ((k+1) * E.n)++flat E (l.drop k)++cur.toList.drop ((k+1+(l.drop k).length) * E.n)).drop ((k+1) * E.n)).toArray,?_,?_,?_⟩
 ·intro W r nd j ns sc u H;have h:=zq K (o:=k+1) (m:=l.drop k) (nd:=nd) (cd:=j) (ns:=ns) (sc:=sc) u (zm K u T k) (by rw [F]; exact H) (by rw [F,G]; exact Z _ (by omega)) r;rw [F] at h ⊢;exact h
 ·intro W r nd j u b2 aE b5;have h:=zq K (o:=k) (m:=[c]) (nd:=nd) (cd:=j) (ns:=1) (sc:=1) u (uK b2 aE) (by simp; omega) (by rw [bK,b1]; exact Z _ (by simp; omega)) r;simpa using h
 ·intro W B hB H u;have a1:(cur.toList.take ((k+1) * E.n)).length=(k+1) * E.n:=by
   rw [aF,aO,G];exact aA (Z _ (by omega))
  have a2:(cur.toList.take ((k+1) * E.n)++flat E (l.drop k)++cur.toList.drop ((k+1+(l.drop k).length) * E.n)).take (k * E.n)=flat E (l.take k):=by
   rw [aN,List.take_append_of_le_length (by rw [a1]; exact Z _ (by omega)),List.take_take,aA (Z _ (by omega)),<- qK K,<- T,List.take_take,aA (Z _ (by omega))]
  have a6:(cur.toList.take ((k+1) * E.n)++flat E (l.drop k)++cur.toList.drop ((k+1+(l.drop k).length) * E.n)).drop ((k+1) * E.n)=flat E (l.drop k)++cur.toList.drop ((k+1+(l.drop k).length) * E.n):=by
   rw [aN,List.drop_left' a1]
  have e:flat E (l.take k)++flat E [c]++flat E (l.drop k)=flat E (l.take k++c::l.drop k):=by
   rw [gM,show c::l.drop k=[c]++l.drop k from rfl,gM,aN]
  have ln:(l.take k++c::l.drop k).length=l.length+1:=by simp; omega
  have q:(flat E (l.take k)++flat E [c]++flat E (l.drop k)).length=(l.length+1) * E.n:=by rw [e,eO K,ln]
  refine pF K ln.symm hB u S H ?_ ?_
  ·rw [bK,a2,a6,<- aN,aS,q,aQ,show cur.toList.length=cap * E.n from Array.length_toList.trans G,F];have N:(l.length+1) * E.n<=cap * E.n:=Z _ S;rw [show k+1+(l.length-k)=l.length+1 by omega];omega
  ·rw [a2,a6,<- aN];exact (List.take_left' q).trans e
theorem vL (K:E.Ok) (a7:ah) (bT:Tryz.prog.underlying a7=O (.int .i64)) (bI:k<l.length) (c8:l.length<=1000) (c7:cap<l.length+1) (c9:l.length<=cap) (b6:cur.toList.take (l.length * E.n)=flat E l) (W:D) (g b:Nat) (bC:dN W g cur E.t) (_:b<W.heap.size) :
  ∃ (G:Nat) (r a8 aE:Array J),l.length+1<=G/\G<=dh /\
   (∀ F,(aU #[E.ts,a7] F #[aj (O ⟨g,0,Y⟩) k cap,aJ aI ((l.length:Int)+1-k)]).run X W=.ok (aj (O ⟨W.heap.size,0,Y⟩) (l.length+1) G) (W.drew.alloc (.cells r E.t))) /\
   (∀ (w:D) (F:ah) (nd H:Nat),dN w W.heap.size r E.t->dN w b cs E.t->cs.toList=E.cells c->1<=nd->(bH #[E.ts,E.ts] F #[aj (O ⟨W.heap.size,k * E.n,Y⟩) nd H,aj (O ⟨b,0,Y⟩) 1 1]).run X w=.ok (aJ aI 1) (w.setRow W.heap.size a8)) /\
   (∀ (w:D) (F:ah) (nd H ns sc:Nat),dN w W.heap.size a8 E.t->dN w g cur E.t->min ns nd=l.length-k->(bH #[E.ts,E.ts] F #[aj (O ⟨W.heap.size,(k+1) * E.n,Y⟩) nd H,aj (O ⟨g,k * E.n,Y⟩) ns sc]).run X w=.ok (aJ aI ((l.length-k:Nat):Int)) (w.setRow W.heap.size aE)) /\
   (∀ (w:D) (B:Nat),B<=W.heap.size->dN w W.heap.size aE E.t->Own E w B (aj (O ⟨W.heap.size,0,Y⟩) (l.length+1) G) (l.take k++c::l.drop k)):=by
 obtain⟨i,bW,bX,i3,b7⟩:=K.info;have b1:=K.few;have bP:=K.pos;have T:(l.drop k).length=l.length-k:=by simp
 have bO:(Builtin.firstCells i.size k (aj (O ⟨g,0,Y⟩) k cap)).run X W.drew=.ok (flat E (l.take k)).toArray W.drew :=
  run_firstCells_some (P:=X) (w:=W.drew) i.size k ⟨g,0,Y⟩ k cap (flat E (l.take k)) (by rw [eO K,aF,aA (by omega),i3]) (fun j u I=>by
   rw [mO];show W.cell? _=_;rw [bC.cell];rw [<- qK K,<- b6,bG] at I
   split at I
   ·rw [bG] at I
    split at I
    ·simpa using I
    ·cases I
   ·cases I)
 have S:=fun F=>Lib.run_append_grow_zeros (P:=X) W E.ts a7 F E.t i _ aI aI K.hu bT bW bX (O ⟨g,0,Y⟩) k cap (flat E (l.take k)) bO (l.length+1-k) (by omega) (by rw [i3]; exact bP) (by omega) (by omega)
  (by rw [b7]; exact Nat.le_trans (Nat.mul_le_mul (show l.length+1-k<=2000 by omega) b1) (by decide))
  (growslice_fits (by omega) (by rw [b7]; exact Nat.le_trans (Nat.mul_le_mul (show k+(l.length+1-k)<=2000 by omega) b1) (by decide)))
 rw [show k+(l.length+1-k)=l.length+1 by omega] at S;have N:=grownCap_ge W (l.length+1) cap E.t;have a1:=grownCap_le_maxLen W (l.length+1) cap E.t (by unfold dh; omega);generalize grownCap W (l.length+1) cap E.t=G at S N a1;obtain⟨r,a2⟩:∃ r:Array J,r=(flat E (l.take k)).toArray++Builtin.zeroCells E.z.cells (l.length+1-k)++Builtin.zeroCells E.z.cells (G-(l.length+1)):=⟨_,rfl⟩;rw [<- a2] at S;have b4:r.size=G * E.n:=by
  rw [a2];simp only [Array.size_append,bK,size_zeroCells,K.zs,eO K,aF,aA (Nat.le_of_lt bI),<- bD];rw [show k+(l.length+1-k)+(G-(l.length+1))=G by omega]
 have b2:r.toList.take (k * E.n)=flat E (l.take k):=by
  rw [a2];simp only [Array.toList_append,aN];have e:(flat E (l.take k)).length=k * E.n:=by rw [eO K,aF,aA (by omega)]
  rw [<- e];simp
 have bA:(flat E [c]).length=1 * E.n:=by rw [eO K]; rfl
 have b9:(r.toList.take (k * E.n)).length=k * E.n:=by
  rw [b2,eO K,aF,aA (by omega)]
 have b5:(r.toList.take (k * E.n)++flat E [c]++r.toList.drop ((k+[c].length) * E.n)).length=G * E.n:=by
  have bB:(k+1) * E.n<=G * E.n:=Z _ (by omega);have c6:(k+1) * E.n=k * E.n+1 * E.n:=bD ..;simp only [aS,b9,bA,aQ,aO,b4,List.length_singleton];omega
 refine⟨G,r,(r.toList.take (k * E.n)++flat E [c]++r.toList.drop ((k+[c].length) * E.n)).toArray,
  ((r.toList.take (k * E.n)++flat E [c]++r.toList.drop ((k+[c].length) * E.n)).take ((k+1) * E.n)++flat E (l.drop k)++(r.toList.take (k * E.n)++flat E [c]++r.toList.drop ((k+[c].length) * E.n)).drop ((k+1+(l.drop k).length) * E.n)).toArray,N,a1,?_,?_,?_,?_⟩
 ·intro F;have h:=S F;rw [show ((l.length+1-k:Nat):Int)=(l.length:Int)+1-k by omega] at h;exact h
 ·intro w F nd H M a6 bE cA;have h:=zq K (o:=k) (m:=[c]) (nd:=nd) (cd:=H) (ns:=1) (sc:=1) M (uK a6 bE) (by simp; omega) (by rw [b4]; exact Z _ (by simp; omega)) F;simpa using h
 ·intro w F nd H ns sc M a6 bM;have h:=zq K (o:=k+1) (m:=l.drop k) (nd:=nd) (cd:=H) (ns:=ns) (sc:=sc) M (zm K a6 b6 k) (by rw [T]; exact bM) (by rw [T,bK,b5]; exact Z _ (by omega)) F;rw [T] at h ⊢;exact h
 ·intro w B hB M;have b8:(r.toList.take (k * E.n)++flat E [c]++r.toList.drop ((k+[c].length) * E.n)).take ((k+1) * E.n)=flat E (l.take k)++flat E [c]:=by
   have e:(r.toList.take (k * E.n)++flat E [c]).length=(k+1) * E.n:=by rw [aS,b9,bA,<- bD]
   rw [<- e,List.take_left,b2]
  have e:flat E (l.take k)++flat E [c]++flat E (l.drop k)=flat E (l.take k++c::l.drop k):=by
   rw [gM,show c::l.drop k=[c]++l.drop k from rfl,gM,aN]
  have ln:(l.take k++c::l.drop k).length=l.length+1:=by simp; omega
  have q:(flat E (l.take k)++flat E [c]++flat E (l.drop k)).length=(l.length+1) * E.n:=by rw [e,eO K,ln]
  refine pF K ln.symm hB M N a1 ?_ ?_
  ·rw [bK,b8,aS,q,aQ,b5,T];have bB:(l.length+1) * E.n<=G * E.n:=Z _ N;rw [show k+1+(l.length-k)=l.length+1 by omega];omega
  ·rw [b8];exact (List.take_left' q).trans e
end
theorem jA {P:Program} {ops:Array Oper} {j:List Oper} {o:Oper} {a:Act} {Q:Exit->Act->D->Prop} {w w':D} (F:o.guard=Y) (s x:aB) (t q:ah)
  (G:o.op=.call { callee:=.builtin .append,args:=#[s,x],argTypes:=#[t,q] }) {v xv r:J} (I:a.eval s=v) (M:a.eval x=xv) (H:(aU #[t,q] o.type #[v,xv]).run P w=.ok r w')
  (h:wpList P ops Q j (a.put o.dst r) w'):wpList P ops Q (o::j) a w:=by
 refine wpList_plain F fun K u=>?_;unfold cB execOp;simp only [G,resolve,invoke,builtin,Sem.run_bind,Sem.run_pure,bY,cu,dH,List.map_nil,I,M,H];exact u _ _ h
theorem iW {P:Program} {ops:Array Oper} {o:Oper} {a:Act} {w w':D} {K:Act->D->Prop} {Q:Exit->Act->D->Prop} {E:Prop}
  (r:o.guard=Y) (s x:aB) (t:ah) (u:o.op=.call { callee:=.builtin .copy,args:=#[s,x],argTypes:=#[t,t] }) {v xv j:J} (G:a.eval s=v) (I:a.eval x=xv)
  (F:(bH #[t,t] o.type #[v,xv]).run P w=.ok j w') (q:K (a.put o.dst j) w') :
  if aC o (yielded ops a.tmps)=au then cB P o a w K Q else E:=by
 have H:aC o (yielded ops a.tmps)=au:=by simp [aC,r]
 rw [if_pos H];unfold cB execOp;simp only [u,resolve,invoke,builtin,Sem.run_bind,Sem.run_pure,bY,cu,dH,List.map_nil,G,I,F];exact q
theorem fC {P:Program} {ops:Array Oper} {o:Oper} {a:Act} {w w':D} {K:Act->D->Prop} {Q:Exit->Act->D->Prop} {E:Prop}
  (r:o.guard=Y) (s x:aB) (t:ah) (u:o.op=.call { callee:=.builtin .append,args:=#[s,x],argTypes:=#[t,t] }) {v xv j:J} (G:a.eval s=v) (I:a.eval x=xv)
  (F:(aU #[t,t] o.type #[v,xv]).run P w=.ok j w') (q:K (a.put o.dst j) w') :
  if aC o (yielded ops a.tmps)=au then cB P o a w K Q else E:=by
 have H:aC o (yielded ops a.tmps)=au:=by simp [aC,r]
 rw [if_pos H];unfold cB execOp;simp only [u,resolve,invoke,builtin,Sem.run_bind,Sem.run_pure,bY,cu,dH,List.map_nil,G,I,F];exact q
theorem sK {P:Program} {ops:Array Oper} {o:Oper} {a:Act} {w:D} {K:Act->D->Prop} {Q:Exit->Act->D->Prop} {E:Prop} {f:FuncId} {args:Array J} {R:Ending->D->Prop}
  (r:o.guard=Y) (F:(execOp a.eval o).run P w=.ok (.enter f args) w) (q:Calls P f args w R) (j:∀ e w',R e w'->∃ v,e=bg v/\K (a.put o.dst v) w') :
  if aC o (yielded ops a.tmps)=au then cB P o a w K Q else E:=by
 have G:aC o (yielded ops a.tmps)=au:=by simp [aC,r]
 rw [if_pos G];unfold cB;rw [F,Oper.upon_enter];refine q.mono ?_;intro e w' h;obtain⟨v,rfl,u⟩:=j e w' h;exact u
theorem gB {P : Program} {f : FuncId} {j : Func} {c : Code} (u : P.funcs[f]? = some j) (F : (j.name == "runtime.NumGoroutine") = false) (r : j.body = some c) (args : Array Value) (w : World) : (callFunc f args).run P w = .ok (.enter f args) w := by
 have q : j.name ≠ "runtime.NumGoroutine" := by simpa using F
 simp [callFunc,u,q,r]
theorem jq {P:Program} (j:aB->J) (o:Oper) (x:aB) (t:ah) (f:FuncId) (u:o.op=.call { callee:=.value (.func f),args:=#[x],argTypes:=#[t] }) {v:J} (F:j x=v) (r:j (.func f)=.func (.func f) #[] #[]) (w:D)
  (q:(callFunc f #[v]).run P w=.ok (.enter f #[v]) w):(execOp j o).run P w=.ok (.enter f #[v]) w:=by
 simp [execOp,u,resolve,invoke,F,r,Deferred.ofValue,q]
theorem nQ {P:Program} (q:aB->J) (o:Oper) (x y:aB) (t s:ah) (f:FuncId) (F:o.op=.call { callee:=.value (.func f),args:=#[x,y],argTypes:=#[t,s] }) {v j:J} (G:q x=v) (H:q y=j) (u:q (.func f)=.func (.func f) #[] #[]) (w:D)
  (r:(callFunc f #[v,j]).run P w=.ok (.enter f #[v,j]) w):(execOp q o).run P w=.ok (.enter f #[v,j]) w:=by
 simp [execOp,F,resolve,invoke,G,H,u,Deferred.ofValue,r]
end Rw
namespace Rg
open Go.RowKit
def left (L:Array Bool):Nat:=L.toList.countP (fun b=>!b)
theorem XR (L:Array Bool) (i:Nat) (h:L.getD i au=aH):left (L.setIfInBounds i au)+1=left L:=by
 obtain⟨l⟩:=L;have q:i<l.length:=by
  rcases bQ i l.length with j|j
  ·exact j
  ·exact absurd h (by simp [aZ,Nat.not_lt.2 j])
 have r:l[i]=aH:=by simpa [aZ,q] using h
 unfold left;simp only [List.setIfInBounds_toArray];rw [List.countP_set q,r];have u:0<l.countP (fun b=>!b):=List.countP_pos_iff.2 ⟨l[i],List.getElem_mem q,by rw [r]; rfl⟩;simp;omega
theorem UZ (L:Array Bool) (h:left L=0) (i:Nat):L.getD i au=au:=by
 obtain⟨l⟩:=L;unfold left at h;rw [List.countP_eq_zero] at h;rcases bQ i l.length with j|j
 ·have:=h l[i] (List.getElem_mem j);simp [aZ,j];simpa using this
 ·simp [aZ,Nat.not_lt.2 j]
def Qq (ops:Array Oper):Bool:=(List.range ops.size).all fun i=>match ops[i]? with
 | some o=>o.after.all fun e=>!Region.binds .any e || decide (e.on<i)
 | none=>au
def done (L:Array Bool) (i:Nat):Prop:=L.getD i aH=au
theorem MZ {ops:Array Oper} (M:Qq ops=au) {L:Array Bool} (a1:L.size=ops.size) (h:Region.ready .any ops L=[]):∀ n,n<=ops.size->∀ i,i<n->done L i:=by
 intro n
 induction n with
 | zero=>intro _ i N; omega
 | succ n G =>
  intro T i N;rcases bQ i n with q|q
  ·exact G (by omega) i q
  ·obtain rfl:i=n:=by omega
   cases j:L.getD i au
   ·exfalso;have F:i∈Region.ready .any ops L:=by
     rw [mem_ready];refine⟨j,ops[i],dD (by omega),fun e I H=>?_⟩;have r:=List.all_eq_true.1 M i (List.mem_range.2 (by omega));rw [dD (by omega)] at r;have u:=Array.all_eq_true'.1 r e I;rw [H] at u;exact G (by omega) e.on (by simpa using u)
    rw [h] at F;cases F
   ·unfold done;have S:i<L.size:=by omega
    simp [aZ,S] at j ⊢;exact j
section
variable {P:Program} {ops:Array Oper} {Q:Exit->Act->D->Prop}
theorem Qr (u:Array Bool->Act->D->Prop) (a1:Qq ops=au)
  (b2:∀ L a w i o,L.size=ops.size->u L a w->ops[i]?=O o->¬ done L i->(∀ e∈o.after,Region.binds .any e=au->done L e.on)->wpOp P ops Q i (u (L.setIfInBounds i au)) a w)
  (T:∀ L a w,u L a w->(∀ i,i<ops.size->done L i)->Q .normal a w) :
  ∀ (q:Nat) (L:Array Bool) (a:Act) (w:D),L.size=ops.size->left L<=q->u L a w->wpAny P .any ops Q q L a w:=by
 intro q
 induction q with
 | zero =>
  intro L a w F aE H;have I:Region.ready .any ops L=[]:=by
   rw [List.eq_nil_iff_forall_not_mem];intro i N;have r:=(mem_ready.1 N).1;rw [UZ L (by omega) i] at r;cases r
  exact⟨I,T L a w H (MZ a1 F I ops.size (bF _))⟩
 | succ q b4 =>
  intro L a w F aE H;refine⟨fun I=>T L a w H (MZ a1 F I ops.size (bF _)),fun i N=>?_⟩;obtain⟨r,o,M,a6⟩:=mem_ready.1 N;have b5:i<ops.size:=(bL.1 M).1;have b1:¬ done L i:=by
   unfold done;have:i<L.size:=by omega
   simp [aZ,this] at r ⊢;exact r
  have j:=b2 L a w i o F H M b1 (fun e a8 a7=>a6 e a8 a7);have a2:∀ G w',u (L.setIfInBounds i au) G w'->wpAny P .any ops Q q (L.setIfInBounds i au) G w':=fun G w' h =>
   b4 _ G w' (by simpa using F) (by have:=XR L i r; omega) h
  unfold wpOp at j ⊢;rw [M] at j ⊢;simp only at j ⊢
  split at j
  ·rename_i S
   rw [if_pos S];rcases j with j|j
   ·exact aK (Oper.wp_mono a2 j)
   ·exact aL j
  ·rename_i S
   rw [if_neg S];exact a2 _ _ j
theorem qX (j:Array Bool->Act->D->Prop) {id:Nat} {a:Act} {w:D} {l:List Oper} (I:P.follows .mixedOrders=au) (H:Qq l.toArray=au)
  (r:j (Array.replicate l.length aH) a { w with drawn:=w.drawn+1 })
  (S:∀ L a w i o,L.size=l.length->j L a w->l[i]?=O o->¬ done L i->(∀ e∈o.after,Region.binds .any e=au->done L e.on)->wpOp P l.toArray Q i (j (L.setIfInBounds i au)) a w)
  (G:∀ L a w,j L a w->(∀ i,i<l.length->done L i)->Q .normal a w):(Code.region id l.toArray au).wp P Q a w:=by
 refine wp_region_any I (Qr (ops:=l.toArray) j H (fun L a w i o N q M=>S L a w i o (by simpa using N) q (by simpa using M)) (fun L a w q F=>G L a w q (by simpa using F)) _ _ _ _ (by simp) ?_ (by simpa using r));unfold left;have u:=List.countP_le_length (p:=fun b:Bool=>!b) (l:=List.replicate l.length aH);simpa using u
end
theorem iJ {L:Array Bool} {i:Nat} (h:i<L.size) (j:Nat):done (L.setIfInBounds i au) j↔j=i\/done L j:=by
 unfold done;by_cases e:j=i
 ·subst e; simp [aZ,h]
 ·by_cases q:j<L.size
  ·have r:i≠j:=fun x=>e x.symm;simp [aZ,q,e,r]
  ·simp [aZ,q,e]
theorem gQ (n j:Nat):¬ done (Array.replicate n aH) j:=by
 unfold done;by_cases q:j<n <;> simp [aZ,q]
theorem dI {P:Program} {ops:Array Oper} {Q:Exit->Act->D->Prop} {K:Act->D->Prop} {a:Act} {w w':D} {i:Nat} {o:Oper} {v:J}
  (q:ops[i]?=O o) (j:o.guard=Y) (r:(execOp a.eval o).run P w=.ok (.value v) w') (h:K (a.put o.dst v) w'):wpOp P ops Q i K a w:=by
 unfold wpOp;rw [q];have u:aC o (yielded ops a.tmps)=au:=by simp [aC,j]
 simp only [u,if_true];refine aK ?_;unfold cB;rw [r];exact h
theorem aeK {P:Program} {s:Sem J} {w w':D} {v:J} (h:s.run P w=.ok v w'):(do pure (Next.value (<- s)):Sem Next).run P w=.ok (.value v) w':=by
 simp [go_sem,h]
theorem gV {P:Program} (j:aB->J) (o:Oper) (s x:aB) (t:ah) (u:o.op=.call { callee:=.builtin .append,args:=#[s,x],argTypes:=#[t,t] }) {v r q:J} {w w':D}
  (G:j s=v) (H:j x=r) (F:(aU #[t,t] o.type #[v,r]).run P w=.ok q w'):(execOp j o).run P w=.ok (.value q) w':=by
 simp [execOp,u,resolve,invoke,builtin,G,H,F,bf]
theorem lW {P:Program} (j:aB->J) (o:Oper) (t:ah) (x:aB) (l h m:Option aB) (q:o.op=.slice t x l h m) {v:J} {w:D} (r:(aX t (j x) (l.map j) (h.map j) (m.map j)).run P w=.ok v w) :
  (execOp j o).run P w=.ok (.value v) w:=by
 simp [execOp,q,r,bf]
theorem qY {P:Program} (j:aB->J) (o:Oper) (t:ah) (x i:aB) (q:o.op=.indexAddr t x i) {v:J} {w:D} (r:(aP t (j x) (j i)).run P w=.ok v w) :
  (execOp j o).run P w=.ok (.value v) w:=by
 simp [execOp,q,r,bf]
theorem dW {P:Program} (j:aB->J) (o:Oper) (t:ah) (x:aB) (q:o.op=.load t x) {v:J} {w:D} (r:(Instr.loadAt t (j x)).run P w=.ok v w) :
  (execOp j o).run P w=.ok (.value v) w:=by
 simp [execOp,q,r,bf]
theorem iX {P:Program} (q:aB->J) (o:Oper) (t:ah) (n:Nat) (j:Array (Nat×aB)) (r:o.op=.buildSlice t n j) {ps:Array (Nat×J)} (u:j.map (fun x=>(x.1,q x.2))=ps) {v:J} {w w':D} (F:(Instr.buildSlice t n ps).run P w=.ok v w') :
  (execOp q o).run P w=.ok (.value v) w':=by
 subst u;simp [execOp,r,F,bf]
theorem gF {P:Program} (j:aB->J) (o:Oper) (x:aB) (q:o.op=.move x) (w:D):(execOp j o).run P w=.ok (.value (j x)) w:=by
 simp [execOp,q]
theorem kG {P:Program} (j:aB->J) (o:Oper) (x:aB) (q:o.op=.assign x) (w:D):(execOp j o).run P w=.ok (.value (j x)) w:=by
 simp [execOp,q]
theorem size_put (a:Act) (d:Nat) (v:J):(a.put (O d) v).tmps.size=a.tmps.size:=by simp [Act.put]
theorem get_put (a:Act) (d:Nat) (v:J) (j:Nat) (r:j≠d):(a.put (O d) v).tmps[j]?=a.tmps[j]?:=by
 have q:d≠j:=fun x=>r x.symm;simp [Act.put,q]
theorem dU {a:Act} {j:Nat} {v:J} (h:a.tmps[j]?=O v):a.eval (.tmp j)=v:=by
 have q:=(bL.1 h).1;have r:=(bL.1 h).2;simp [Act.eval,aZ,q,r]
theorem ade {P:Program} {ops:Array Oper} {Q:Exit->Act->D->Prop} {K:Act->D->Prop} {a:Act} {w w':D} {i:Nat} {o:Oper}
  (q:ops[i]?=O o) (j:o.guard=Y) (r:(execOp a.eval o).run P w=.ok .skip w') (h:K (a.put o.dst undef) w'):wpOp P ops Q i K a w:=by
 unfold wpOp;rw [q];have u:aC o (yielded ops a.tmps)=au:=by simp [aC,j]
 simp only [u,if_true];refine aK ?_;unfold cB;rw [r];exact h
theorem gG {a:Act} {r:List J} (q m:Nat) (df:a.defers=[]) (sz:a.tmps.size=r.length) (a1:q+m<=r.length) (kp:∀ j,(j<q\/q+m<=j)->a.tmps[j]?=r[j]?) :
  ∃ I:List J,I.length=m/\a=⟨(r.take q++(I++r.drop (q+m))).toArray,[]⟩:=by
 obtain⟨u,M⟩:=a;have N:M=[]:=df;have a2:u.size=r.length:=sz;have G:∀ j,(j<q\/q+m<=j)->u[j]?=r[j]?:=kp;subst N;have H:((u.toList.drop q).take m).length=m:=by simp; omega
 refine⟨(u.toList.drop q).take m,H,congrArg (fun x=>(⟨x,[]⟩:Act)) ?_⟩;apply Array.ext_getElem?;intro j
 conv=>rhs; rw [List.getElem?_toArray]
 by_cases F:j<q
 ·rw [G j (aK F),aT (by simp; omega),bG,if_pos F]
 ·have S:(r.take q).length=q:=by simp; omega
  rw [aR (by omega),S];by_cases T:j<q+m
  ·rw [aT (by omega),bG,if_pos (by omega),dw,Array.getElem?_toList,show q+(j-q)=j by omega]
  ·rw [G j (aL (by omega)),aR (by omega),H,dw,show q+m+(j-q-m)=j by omega]
theorem gK {P:Program} {ops:Array Oper} {Q:Exit->Act->D->Prop} {K:Act->D->Prop} {a:Act} {w:D} {i:Nat} {o:Oper} {f:FuncId} {args:Array J} {R:Ending->D->Prop}
  (F:ops[i]?=O o) (r:o.guard=Y) (G:(execOp a.eval o).run P w=.ok (.enter f args) w) (q:Calls P f args w R) (j:∀ e w',R e w'->∃ v,e=bg v/\K (a.put o.dst v) w'):wpOp P ops Q i K a w:=by
 unfold wpOp;rw [F];have H:aC o (yielded ops a.tmps)=au:=by simp [aC,r]
 simp only [H,if_true];refine aK ?_;unfold cB;rw [G,Oper.upon_enter];refine q.mono ?_;intro e w' h;obtain⟨v,rfl,u⟩:=j e w' h;exact u
theorem Es {P:Program} (j:aB->J) (o:Oper) (x y z:aB) (t:ah) (f:FuncId) (F:o.op=.call { callee:=.value (.func f),args:=#[x,y,z],argTypes:=#[t,t,t] }) {v q s:J} (G:j x=v) (H:j y=q) (I:j z=s) (u:j (.func f)=.func (.func f) #[] #[]) (w:D)
  (r:(callFunc f #[v,q,s]).run P w=.ok (.enter f #[v,q,s]) w):(execOp j o).run P w=.ok (.enter f #[v,q,s]) w:=by
 simp [execOp,F,resolve,invoke,G,H,I,u,Deferred.ofValue,r]
theorem dY {P:Program} (j:aB->J) (o:Oper) (s:ah) (x:aB) (f:Nat) (q:o.op=.fieldAddr s x f) {v:J} {w:D} (r:(Instr.fieldAt s (j x) f).run P w=.ok v w):(execOp j o).run P w=.ok (.value v) w:=by
 unfold execOp;rw [q];exact aeK r
theorem XT {P:Program} (j:aB->J) (o:Oper) (q:BinOp) (t:ah) (x y:aB) (F:ah) (r:o.op=.binOp q t x y F) {v:J} {w:D} (u:(do eqGuard q t x y (j x) (j y); binOp q t (j x) (j y):Sem J).run P w=.ok v w):(execOp j o).run P w=.ok (.value v) w:=by
 unfold execOp;rw [r];exact aeK u
theorem jd {P:Program} (q:aB->J) (o:Oper) (t:ah) (j:Array (Nat×aB)) (r:o.op=.build t j) {ps:Array (Nat×J)} (u:j.map (fun x=>(x.1,q x.2))=ps) {v:J} {w:D} (F:(Instr.build t ps).run P w=.ok v w) :
  (execOp q o).run P w=.ok (.value v) w:=by
 subst u;simp [execOp,r,F,bf]
theorem XV {P:Program} (j:aB->J) (o:Oper) (t:ah) (x y:aB) (q:o.op=.store t x y) {w w':D} (r:(Instr.storeAt t (j x) (j y)).run P w=.ok () w') :
  (execOp j o).run P w=.ok .skip w':=by
 simp [execOp,q,r,bf]
end Rg
namespace Wi
open Go.RowKit
def within (n lo j:Int):Int:=lo+n % (j-lo+1)
theorem jy (n lo j:Int) (h:lo<=j):lo<=within n lo j/\within n lo j<=j:=by
 unfold within;have q:=Int.emod_nonneg n (show j-lo+1≠0 by omega);have r:=dx n (show 0<j-lo+1 by omega);omega
theorem Qo (n lo j:Int) (h:lo<=j) (r:¬ n.tmod (j-lo+1)<0):lo+n.tmod (j-lo+1)=within n lo j:=by
 unfold within;rw [Int.tmod_eq_emod] at r ⊢
 split at r
 ·rename_i q; rw [if_pos q]; omega
 ·rename_i q
  rw [if_neg q] at *;have u:=dx n (show 0<j-lo+1 by omega);have:((j-lo+1).natAbs:Int)=j-lo+1:=by omega
  omega
theorem Qp (n lo j:Int) (h:lo<=j) (q:n.tmod (j-lo+1)<0):lo+(n.tmod (j-lo+1)+j-lo+1)=within n lo j:=by
 unfold within;rw [Int.tmod_eq_emod] at q ⊢
 split at q
 ·have u:=Int.emod_nonneg n (show j-lo+1≠0 by omega);omega
 ·rename_i r
  rw [if_neg r] at *;have:((j-lo+1).natAbs:Int)=j-lo+1:=by omega
  omega
theorem ada (n m:Int) (h:0<m):-m<n.tmod m/\n.tmod m<m:=by
 rw [Int.tmod_eq_emod];have j:=Int.emod_nonneg n (show m≠0 by omega);have q:=dx n h
 split <;> omega
theorem Kz {k:IntKind} {a b:Int} (h:a=b):bg (aJ k a)=bg (aJ k b):=by rw [h]
theorem iM (n lo j:Int) (w:D) (h:lo<=j) (r:-1000000<=lo) (u:j<=1000000) (_:-9223372036854775808<=n) (_:n<=9223372036854775807) :
  Calls X 14 #[aJ aI n,aJ aI lo,aJ aI j] w fun e w'=>e=bg (aJ aI (within n lo j))/\w=w':=by
 have q:0<j-lo+1:=by omega
 have G:j-lo+1<=2000001:=by omega
 have F:=ada n (j-lo+1) q;have P:=hq (Qo n lo j h);have Q:=hq (Qp n lo j h);go_enter Tryz.func14,Tryz.ntmps14;go_wp2
 ·go_ret;exact⟨Kz (Q.o (by omega)),rfl⟩
 ·go_ret;exact⟨Kz (P.o (by omega)),rfl⟩
end Wi
namespace Va
open Go.RowKit
abbrev vl (t:Bool) (n:Int) (s:ByteArray):J:=.agg #[.bool t,aJ aI n,ay s]
theorem eG {a b:Bool} (h:a=b):bg (.bool a)=bg (.bool b):=by rw [h]
def akh:Array J:=#[ay ⟨#[]⟩,ay ⟨#[120]⟩,ay ⟨#[120,121]⟩,ay ⟨#[120,121,122]⟩,ay ⟨#[120,122]⟩,ay ⟨#[121]⟩,ay ⟨#[121,121]⟩]
def xW (j:Int):ByteArray:=[⟨#[]⟩,⟨#[120]⟩,⟨#[120,121]⟩,⟨#[120,121,122]⟩,⟨#[120,122]⟩,⟨#[121]⟩,⟨#[121,121]⟩].getD j.toNat ⟨#[]⟩
theorem adb (j:Int) (q:0<=j) (u:j<=6):akh[j.toNat]?=O (ay (xW j)):=by
 obtain⟨n,rfl⟩:=Int.eq_ofNat_of_zero_le q;have r:n<=6:=by omega
 match n,r with
 | 0,_=>rfl
 | 1,_=>rfl
 | 2,_=>rfl
 | 3,_=>rfl
 | 4,_=>rfl
 | 5,_=>rfl
 | 6,_=>rfl
theorem IQ (w:D) :
  Calls X 122 #[] w fun e w'=>e=bg (aj (O ⟨w.heap.size,0,Y⟩) 7 7)/\w'=w.alloc (.cells akh 9):=by
 go_enter Tryz.func122,Tryz.ntmps122;go_wp2;go_ret;exact⟨rfl,rfl⟩
theorem MV (j:Int):(xW j).size<=3:=by
 unfold xW;rcases bQ j.toNat 7 with h|h
 ·generalize j.toNat=n at h
  match n,h with
  | 0,_=>decide
  | 1,_=>decide
  | 2,_=>decide
  | 3,_=>decide
  | 4,_=>decide
  | 5,_=>decide
  | 6,_=>decide
 ·rw [bN,List.getElem?_eq_none (by simpa using h)]
  decide
end Va
namespace In
open Go.RowKit Go.ChangeShapes Go.WideShapes
structure lY (W:D) (nv:J) (zs:List Int):Prop where
 shape:∃ ao cap,nv=aj ao zs.length cap
 at_:∀ (i:Nat) (z:Int),zs[i]?=O z->(-9223372036854775808<=z/\z<=9223372036854775807)/\∃ p:dB,p.block<W.heap.size/\(∀ w,(aP 24 nv (aJ aI i)).run X w=.ok (bS (O p)) w)/\W.cell? p=O (aJ aI z)
theorem lY.on {W j:D} {u:J} {zs:List Int} (h:lY W u zs) (r:Below W.heap.size W j):lY j u zs :=
 ⟨h.shape,fun i z I=>by
  obtain⟨F,p,q,G,H⟩:=h.at_ i z I;exact⟨F,p,Nat.lt_of_lt_of_le q r.size,G,by rw [r.cell q]; exact H⟩⟩
theorem wU {n:Int} (h:(Lit.int aI n).wf=au):-9223372036854775808<=n/\n<=9223372036854775807:=by
 have j:(decide (IntKind.i64.min<=n) && decide (n<=IntKind.i64.max))=au:=h;rw [U,decide_eq_true_eq,decide_eq_true_eq,show IntKind.i64.min=-9223372036854775808 by decide,show IntKind.i64.max=9223372036854775807 by decide] at j;exact j
theorem Qs:Tryz.prog.cellsOf 3=1:=by kernel_rfl
theorem Qt (a:dB) (m len cap:Nat) (h:m<len) (w:D):(aP 24 (aj (O a) len cap) (aJ aI m)).run X w=.ok (bS (O (a.add m))) w:=by
 have j:(m:Int)<len:=by omega
 simp [go_sem,dG,j]
theorem D8 {G:Type} {enc:ah×J->G} {W:D} {b1:Nat->Bool} {T:Bool} {I:Nat} {v:J} {x:DataW G×List MemPlace}
  (a1:DataW.trod enc X W 0 b1 T I 24 [v]=O x):∃ zs,zs.length<=dh/\lY W v zs:=by
 rcases open_ints dG Tryz.underlying3 Qs a1 with⟨u,_⟩|⟨q,j,r,zs,u,_,b2,b4,M,_,N,S⟩
 ·have e:v=aj Y 0 0:=by simpa using u
  rw [e];exact⟨[],Nat.zero_le _,⟨Y,0,rfl⟩,fun i z h=>by simp at h⟩
 ·have e:v=aj (O q) j r:=by simpa using u
  rw [e];have b6:j<=zs.length:=by rw [M]; split <;> omega
  have a7:(zs.take j).length=j:=by simp; omega
  refine⟨zs.take j,by omega,⟨O q,r,by rw [a7]⟩,fun i z a8=>?_⟩;obtain⟨b5,aE⟩:=aD.1 a8;have a6:i<j:=by omega
  have H:zs[i]'(by omega)=z:=by simpa using aE
  have F:=N i (by omega);have a2:zs.getD i 0=z:=by rw [<- H]; simp [List.getD,show i<zs.length by omega]
  rw [a2] at F;exact⟨wU (S z (by rw [<- H]; exact List.getElem_mem _)),q.add i,bU W _ F,fun w=>Qt q i j r a6 w,F⟩
end In
namespace At
open Go.RowKit Va
abbrev A4:=ByteArray×Bool×Int×ByteArray
abbrev av (x:A4):J:=.agg #[ay x.1,.bool x.2.1,aJ aI x.2.2.1,ay x.2.2.2]
def aij (x:A4):List J:=[ay x.1,.bool x.2.1,aJ aI x.2.2.1,ay x.2.2.2]
def Et:List A4->List J
 | []=>[]
 | x::j=>.string x.1::.bool x.2.1::aJ aI x.2.2.1::ay x.2.2.2::Et j
theorem M0:∀ (l:List A4) (m:Nat) (x:A4),l[m]?=O x->(Et l)[m * 4]?=O (ay x.1)/\(Et l)[m * 4+1]?=O (.bool x.2.1)/\(Et l)[m * 4+2]?=O (aJ aI x.2.2.1)/\(Et l)[m * 4+3]?=O (ay x.2.2.2)
 | [],m,x,h=>by simp at h
 | y::j,0,x,h=>by
  simp at h;subst h;exact⟨rfl,rfl,rfl,rfl⟩
 | y::j,m+1,x,h=>by
  have q:=M0 j m x (by simpa using h);rw [show (m+1) * 4=m * 4+1+1+1+1 by omega,show m * 4+1+1+1+1+2=m * 4+2+1+1+1+1 by omega,show m * 4+1+1+1+1+3=m * 4+3+1+1+1+1 by omega];exact q
theorem add_add (a:dB) (i j:Nat):(a.add i).add j=a.add (i+j):=by
 unfold Addr.add;by_cases q:i=0 <;> by_cases r:j=0 <;> simp [q,r,Nat.add_assoc]
def U0 (W:D) (q:J) (l:List A4):Prop :=
 (l=[]/\q=aj Y 0 0)\/∃ (a:dB) (cap:Nat),q=aj (O a) l.length cap/\l.length<=cap/\cap<=dh/\∀ j r,(Et l)[j]?=O r->W.cell? (a.add j)=O r
theorem U0.len {W:D} {j:J} {l:List A4} (h:U0 W j l):∃ q cap,j=aj q l.length cap:=by
 rcases h with⟨rfl,rfl⟩|⟨a,cap,rfl,_⟩
 ·exact⟨Y,0,rfl⟩
 ·exact⟨_,cap,rfl⟩
theorem Qu (a:dB) (m len cap:Nat) (h:m<len) (w:D):(aP 41 (aj (O a) len cap) (aJ aI m)).run X w=.ok (bS (O (a.add (m * 4)))) w:=by
 have j:(m:Int)<len:=by omega
 simp [go_sem,Tryz.underlying41,j]
theorem aik:Tryz.prog.stoodInHeld 175=aH:=by kernel_rfl
def Qv (x y:A4):Bool:=x.1.toList == y.1.toList && (x.2.1 == y.2.1 && x.2.2.1 == y.2.2.1 && x.2.2.2.toList == y.2.2.2.toList)
theorem anO (x y:A4) (j:Bool) (N:Qv x y=j) (w:D):(binOp .neq 175 (av x) (av y)).run X w=.ok (.bool (!j)) w:=by
 have st:=aik;subst N;obtain⟨a,b,c,d⟩:=x;obtain⟨q,r,u,F⟩:=y;unfold Qv;by_cases G:a.toList=q.toList <;> by_cases H:b=r <;> by_cases I:c=u <;> by_cases M:d.toList=F.toList <;> simp [go_sem,Tryz.underlying175,Tryz.underlying173,Tryz.underlying4,Tryz.underlying3,Tryz.underlying9,st,G,H,I,M]
end At
namespace Nm
def hor (l:List UInt8):Int:=l.foldl (fun h b=>h * 256+(b.toNat:Int)) 0
def qd (l:List UInt8):Int:=IntKind.i64.wrap (hor l)
end Nm
namespace Rl
open Go.RowKit Pu Pr
abbrev An:=ByteArray×V3
def has (m:List Cn) (n:ByteArray):Bool:=m.any fun x=>decide (x.1=n)
def vK (a b:List Cn):Bool:=match lG a.length a b with
 | .ok _=>au
 | .error _=>aH
theorem UW {c:Cn} {j:List Cn} (h:kX (c::j)):∀ y∈j,y.1≠c.1:=fun y q e=>Sv ((aM.1 h).1 y q) e.symm
theorem Er:∀ (m:List Cn) (c:Cn) (m':List Cn),kX m->qW m c=O m'->m'.length=m.length+(if has m c.1 then 0 else 1)
 | [],c,m',_,h=>by
  obtain rfl:=ak h
  rfl
 | x::j,c,m',N,h=>by
  obtain⟨I,M⟩:=aM.1 N;simp only [qW] at h
  split at h
  ·rename_i F
   cases u:qW j c with
   | none=>rw [u] at h; cases h
   | some n =>
    rw [u] at h;obtain rfl:=ak h;have e:=Er j c n M u;have q:has (x::j) c.1=has j c.1:=by simp [has,Sv F]
    rw [q];simp only [List.length_cons];omega
  ·rename_i F
   split at h
   ·rename_i r
    cases H:fI x.2 c.2 with
    | none=>rw [H] at h; cases h
    | some k =>
     rw [H] at h;obtain rfl:=ak h;have q:has (x::j) c.1=au:=by simp [has,r]
     rw [q]
     rfl
   ·rename_i r
    obtain rfl:=ak h;have q:has (x::j) c.1=aH:=by
     simp only [has,List.any_cons,Bool.or_eq_false_iff,decide_eq_false_iff_not,List.any_eq_false,decide_eq_true_eq];refine⟨r,fun y S e=>?_⟩;have G:=I y S;rw [e] at G;exact F G
    rw [q]
    rfl
/-! ### match -/
theorem aki {l:List Cn} (h:kX l) {x y:Cn} (q:x∈l) (G:y∈l) (e:x.1=y.1):x=y:=by
 induction l with
 | nil=>cases q
 | cons z I H =>
  have j:=UW h;have F:=(aM.1 h).2;rcases aY.1 q with rfl|r <;> rcases aY.1 G with rfl|u
  ·rfl
  ·exact absurd e.symm (j y u)
  ·exact absurd e (j x r)
  ·exact H F r u
/-! ### cover -/
def fD:Kd->Kd->Bool
 | .rg p j,.rg q s=>decide (q<=p) && decide (j<=s)
 | .tx s,.tx t=>s.data.toList == t.data.toList
 | .tx s,.pr t=>pfx t s
 | .pr s,.pr t=>pfx t s
 | _,_=>aH
theorem xX (a b:Kd) (h:fD a b=au) (v:V3) (j:eZ a v=au):eZ b v=au:=by
 obtain⟨t,n,q⟩:=v;cases a <;> cases b <;> simp only [fD,U,decide_eq_true_eq,beq_iff_eq] at h <;> simp only [eZ,U,decide_eq_true_eq,beq_iff_eq] at j ⊢
 ·exact⟨j.1,by omega,by omega⟩
 ·cases h
 ·cases h
 ·cases h
 ·exact⟨j.1,j.2.trans h⟩
 ·exact⟨j.1,by rw [gJ,j.2,<- gJ]; exact h⟩
 ·cases h
 ·cases h
 ·exact⟨j.1,(gJ _ _).2 (((gJ _ _).1 h).trans ((gJ _ _).1 j.2))⟩
theorem Ih (a b:Kd) (r:jM a=au) (h:∀ v,eZ a v=au->eZ b v=au):fD a b=au:=by
 cases a with
 | rg p G =>
  simp only [jM,decide_eq_true_eq] at r;have j:=h (aH,p,⟨#[]⟩) (by rw [Eo]; simp [r]);have q:=h (aH,G,⟨#[]⟩) (by rw [Eo]; simp [r]);cases b with
  | rg u s =>
   rw [Eo] at j q;simp only [U,decide_eq_true_eq] at j q;simp [fD,j.1,q.2]
  | tx t=>simp [eZ] at j
  | pr t=>simp [eZ] at j
 | tx s =>
  have j:=h (au,0,s) (by rw [oZ]; simp);cases b with
  | rg u t=>rw [wT] at j; cases j
  | tx t=>rw [oZ] at j; exact j
  | pr t=>rw [nI] at j; exact j
 | pr s =>
  have j:=h (au,0,s) (by rw [nI]; exact qV s);cases b with
  | rg u t=>rw [wT] at j; cases j
  | tx t =>
   have q:=h (au,0,more s) (by rw [nI]; exact MS s);rw [oZ,beq_iff_eq] at j q;rw [<- j] at q;have F:=congrArg List.length q;simp [more] at F
  | pr t=>rw [nI] at j; exact j
def rW (a b:List Cn):Bool:=a.all fun x=>b.any fun y=>decide (y.1=x.1) && fD y.2 x.2
end Rl
namespace Kp
open Go.RowKit Va In
def nm (i:Nat):ByteArray:=⟨#[UInt8.ofNat (97+i)]⟩
def zu:Array J:=#[ay ⟨#[97]⟩,ay ⟨#[98]⟩,ay ⟨#[99]⟩,ay ⟨#[100]⟩,ay ⟨#[101]⟩,ay ⟨#[102]⟩,ay ⟨#[103]⟩]
theorem akj (i:Nat) (h:i<7):zu[i]?=O (ay (nm i)):=by
 match i,h with
 | 0,_=>rfl
 | 1,_=>rfl
 | 2,_=>rfl
 | 3,_=>rfl
 | 4,_=>rfl
 | 5,_=>rfl
 | 6,_=>rfl
theorem U5 (w:D):Calls X 52 #[] w fun e w'=>e=bg (aj (O ⟨w.heap.size,0,Y⟩) 7 7)/\w'=w.alloc (.cells zu 9):=by
 go_enter Tryz.func52,Tryz.ntmps52;go_wp2;go_ret;exact⟨rfl,rfl⟩
def vM (zs:List Int) (i:Nat):Int:=if zs=[] then 0 else zs.getD (i % zs.length) 0
theorem XW (F:J) (zs:List Int) (i:Nat) (w:D) (r:lY w F zs) (G:zs.length<=dh) (M:i<=100) :
  Calls X 54 #[F,aJ aI i] w fun e w'=>e=bg (aJ aI (vM zs i))/\w=w':=by
 obtain⟨H,cap,rfl⟩:=r.shape;unfold dh at G;cases zs with
 | nil =>
  go_enter Tryz.func54,Tryz.ntmps54;go_wp2;go_ret;exact⟨rfl,rfl⟩
 | cons z j =>
  have u:i % (z::j).length<(z::j).length:=Nat.mod_lt _ (by simp);obtain⟨y,q⟩:∃ y,(z::j)[i % (z::j).length]?=O y:=⟨_,aW u⟩;obtain⟨_,p,_,N,a1⟩:=r.at_ _ y q;have P:=hq (show vM (z::j) i=y by unfold vM; rw [if_neg (by simp),bN,q]; rfl);have I:((((z::j).length:Nat):Int) == 0)=aH:=by simp; omega
  have T:(((z::j).length:Nat):Int)≠0:=by simp; omega
  have a2:(i:Int) % ((z::j).length:Nat)=((i % (z::j).length:Nat):Int):=rfl;have a6:(i:Int).tmod ((z::j).length:Nat)=((i % (z::j).length:Nat):Int):=by
   rw [Int.tmod_eq_emod_of_nonneg (by omega)]; rfl
  have S:0<(((z::j).length:Nat):Int):=by simp
  generalize (z::j).length=n at *;generalize i % n=m at *;clear r q u;go_enter Tryz.func54,Tryz.ntmps54;go_wp2;go_ret;exact⟨Wi.Kz P.o.symm,rfl⟩
def odd (z:Int):Bool:=bits BinOp.and aI z 1 == 1
theorem XY {W:D} {r:J} {zs:List Int} (q:lY W r zs) (i:Nat):-9223372036854775808<=vM zs i/\vM zs i<=9223372036854775807:=by
 unfold vM
 split
 ·omega
 ·rename_i h
  have j:i % zs.length<zs.length:=Nat.mod_lt _ (List.length_pos_iff.2 h);have:=(q.at_ _ _ (aW j)).1;rw [bN,aW j];exact this
end Kp
namespace Pr
open Go.RowKit Pu
def lF:List Cn->ByteArray->Nat
 | [],_=>0
 | x::j,n=>if V x.1.toList n.toList=au then lF j n+1 else 0
theorem zw:∀ l n,lF l n<=l.length
 | [],n=>bF _
 | x::j,n=>by
  have:=zw j n;simp only [lF]
  split <;> simp; omega
theorem Sw:∀ (l:List Cn) (n:ByteArray) (k:Nat),k<=l.length->(∀ (q:Nat) (y:Cn),q<k->l[q]?=O y->V y.1.toList n.toList=au)->(∀ y:Cn,l[k]?=O y->V y.1.toList n.toList=aH)->lF l n=k
 | [],n,k,j,_,_=>by simp at j; simp [lF,j]
 | x::F,n,0,_,_,h=>by simp [lF,h x rfl]
 | x::F,n,k+1,j,u,G=>by
  simp only [lF];rw [if_pos (u 0 x (by omega) rfl),Sw F n k (by simpa using j) (fun q y H r=>u (q+1) y (by omega) (by simpa using r)) (fun y r=>G y (by simpa using r))]
def lM (l:List Cn) (n:ByteArray):Bool:=match l[lF l n]? with
 | some x=>decide (x.1=n)
 | none=>aH
def XZ (m:List Cn) (c:Cn):Option (List Cn):=match m[lF m c.1]? with
 | some x=>if x.1=c.1 then (fI x.2 c.2).map fun k=>m.set (lF m c.1) (x.1,k) else O (m.take (lF m c.1)++c::m.drop (lF m c.1))
 | none=>O (m.take (lF m c.1)++c::m.drop (lF m c.1))
theorem KF:∀ (m:List Cn) (c:Cn),qW m c=XZ m c
 | [],c=>rfl
 | x::j,c=>by
  unfold XZ;simp only [qW,lF]
  split
  ·rw [KF j c,XZ];simp only [List.getElem?_cons_succ,List.take_succ_cons,List.drop_succ_cons,List.set_cons_succ];cases h:j[lF j c.1]? with
   | none=>simp
   | some y =>
    simp only
    split
    ·simp [Option.map_map,Function.comp_def]
    ·simp
  ·simp
theorem IU {m:List Cn} {c:Cn} (h:lM m c.1=au):∃ x,m[lF m c.1]?=O x/\x.1=c.1/\qW m c=(fI x.2 c.2).map fun k=>m.set (lF m c.1) (x.1,k):=by
 rw [KF];unfold lM at h;unfold XZ;cases j:m[lF m c.1]? with
 | none=>rw [j] at h; cases h
 | some x =>
  rw [j] at h;have e:x.1=c.1:=by simpa using h
  exact⟨x,rfl,e,by simp only; rw [if_pos e]⟩
theorem D9 {m:List Cn} {c:Cn} (h:lM m c.1=aH):qW m c=O (m.take (lF m c.1)++c::m.drop (lF m c.1)):=by
 rw [KF];unfold lM at h;unfold XZ;cases j:m[lF m c.1]? with
 | none=>rfl
 | some x =>
  rw [j] at h;have e:¬ x.1=c.1:=by simpa using h
  simp only;rw [if_neg e]
theorem M6:∀ a b:List UInt8,aG a b<0↔V a b=au
 | [],[]=>by simp [aG,V]
 | [],_::_=>by simp [aG,V]
 | _::_,[]=>by simp [aG,V]
 | a::x,b::y=>by
  simp only [aG,V];by_cases j:a<b
  ·rw [if_pos j]; simp [j]
  ·rw [if_neg j];by_cases q:b<a
   ·have r:a≠b:=by rintro rfl; exact j q
    rw [if_pos q]; simp [j,r]
   ·have r:a=b:=UInt8.le_antisymm (UInt8.not_lt.1 q) (UInt8.not_lt.1 j);subst r;rw [if_neg q,M6 x y]; simp [j]
theorem M7:∀ a b:List UInt8,aG a b=0↔a=b
 | [],[]=>by simp [aG]
 | [],_::_=>by simp [aG]
 | _::_,[]=>by simp [aG]
 | a::x,b::y=>by
  simp only [aG];by_cases j:a<b
  ·rw [if_pos j];have q:a≠b:=by rintro rfl; exact absurd j (UInt8.lt_irrefl _)
   simp [q]
  ·rw [if_neg j];by_cases r:b<a
   ·have q:a≠b:=by rintro rfl; exact j r
    rw [if_pos r]; simp [q]
   ·have q:a=b:=UInt8.le_antisymm (UInt8.not_lt.1 r) (UInt8.not_lt.1 j);subst q;rw [if_neg r,M7 x y]; simp
def KG (a b:ByteArray):Int:=aG a.data.toList b.data.toList
theorem U6 (a b:ByteArray):decide (KG a b<0)=V a.toList b.toList:=by
 rw [bR,bR,aV,decide_eq_true_eq];exact M6 _ _
theorem U7 (a b:ByteArray):KG a b=0↔a=b:=by
 unfold KG;rw [M7];exact⟨sV,fun h=>by rw [h]⟩
theorem IW {l:List Cn} (h:kX l) {i j:Nat} {x y:Cn} (S:i<=j) (F:l[i]?=O x) (q:l[j]?=O y) {n:ByteArray} (G:V y.1.toList n.toList=au):V x.1.toList n.toList=au:=by
 rcases bQ i j with r|r
 ·obtain⟨H,I⟩:=aD.1 F;obtain⟨M,N⟩:=aD.1 q;have u:=List.pairwise_iff_getElem.1 h i j H M r;rw [I,N] at u;exact VaP.Em _ _ _ u G
 ·obtain rfl:i=j:=by omega
  rw [F] at q;obtain rfl:=ak q;exact G
end Pr
end Go.Proofs.YtghlpefopidlaaaGreat
