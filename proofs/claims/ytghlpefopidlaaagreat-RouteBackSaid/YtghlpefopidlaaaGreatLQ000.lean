/-
  Rows of elements of . Conditions as told.
-/
import Derived.Test.YtghlpefopidlaaaGreatProg
import Derived.WalkKit
import Derived.ProofKit
import Derived.Laws.AppendOwn
import Derived.Laws.OwnMore
import Derived.Laws.MakeOwn
import Derived.Laws.CopyRow
import Derived.Deep.Slices
import Derived.Deep.CutBlock
import Derived.Deep.Cut
import Derived.Orders
set_option maxRecDepth 100000
set_option maxHeartbeats 64000000
open _root_.Array renaming getD->ah,getElem?_eq_some_iff->aA,getElem?_eq_getElem->aH,length_toList->aP,replicate->aW
open _root_.Bool renaming false->ak,true->aG
open _root_.Go renaming World->D,Value->J,TypeId->V,Operand->aj,Addr->aX,Act->bF
open Go.Instr renaming sliceAt->aD,indexAt->aJ,loadAt->aZ
open Go.Proofs.Tryz renaming prog->au
open Go.Region renaming wanted->aK,ready->aS,binds->bg
open Go.Result renaming andThen->aC
open Go.Value renaming slice->aB,pointer->aY,int->bH
open _root_.List renaming getElem?_append_right->X,getElem?_append_left->Y,getElem?_eq_some_iff->Z,length_take->aL,take_append_drop->aN,getElem?_take->aQ,getElem?_drop->aR,length_drop->aT,getElem_mem->aU
open _root_.Nat renaming le_refl->ay,lt_or_ge->aF,min_eq_left->aM,add_mul->aV,le_trans->bf,not_lt->bG
open _root_.Option renaming none->O,some->U
open _root_.Or renaming inl->aI,inr->aO
namespace Go.Proofs.YtghlpefopidlaaaGreat
namespace Rw
open Go.RowKit
structure Ek (α:Type) where
 t:V
 ts:V
 n:Nat
 bytes:Nat
 z:J
 val:α->J
 cells:α->List J
structure Ek.Ok {α:Type} (E:Ek α):Prop where
 hu:Tryz.prog.underlying E.ts=U (.slice E.t)
 info:∃ i,Tryz.prog.info? E.t=U i/\i.zero=U E.z/\i.size=E.n/\i.bytes=E.bytes
 zs:E.z.cells.size=E.n
 len:∀ x,(E.cells x).length=E.n
 one:∀ x,∀ u∈E.cells x,u.oneCell'=aG
 pos:0<E.n
 few:E.bytes<=100000
 load:∀ (w:D) (p:aX) (x:α),(∀ j u,(E.cells x)[j]?=U u->w.cell? (p.add j)=U u)->(aZ E.t (aY (U p))).run au w=.ok (E.val x) w
variable {α:Type} {E:Ek α}
def flat (E:Ek α):List α->List J
 | []=>[]
 | x::r=>E.cells x++flat E r
theorem gK:∀ a b:List α,flat E (a++b)=flat E a++flat E b
 | [],b=>rfl
 | x::r,b=>by simp [flat,gK r b]
theorem Te (x:α):flat E [x]=E.cells x:=by simp [flat]
theorem eD (K:E.Ok):∀ l:List α,(flat E l).length=l.length * E.n
 | []=>by simp [flat]
 | x::r=>by simp [flat,eD K r,K.len x,aV]; omega
theorem nR (K:E.Ok):∀ l:List α,∀ u∈flat E l,u.oneCell'=aG
 | [],u,h=>by cases h
 | x::r,u,h=>by
  simp only [flat,List.mem_append] at h;rcases h with h|h
  ·exact K.one x u h
  ·exact nR K r u h
theorem AZ (K:E.Ok):∀ (l:List α) (m:Nat) (x:α),l[m]?=U x->∀ j,j<E.n->(flat E l)[m * E.n+j]?=(E.cells x)[j]?
 | [],m,x,h,_,_=>by simp at h
 | y::r,0,x,h,j,hj=>by
  simp at h;subst h;simp only [flat];rw [Nat.zero_mul,Nat.zero_add,Y (by rw [K.len]; exact hj)]
 | y::r,m+1,x,h,j,hj=>by
  have h2:=AZ K r m x (by simpa using h) j hj;simp only [flat];rw [X (by rw [K.len,aV]; omega),K.len,show (m+1) * E.n+j-E.n=m * E.n+j by rw [aV]; omega];exact h2
theorem add_add (a:aX) (i j:Nat):(a.add i).add j=a.add (i+j):=by
 unfold Addr.add;by_cases hi:i=0 <;> by_cases hj:j=0 <;> simp [hi,hj,Nat.add_assoc]
theorem add_block (a:aX) (i:Nat):(a.add i).block=a.block:=by unfold Addr.add; split <;> rfl
theorem lY (g j:Nat):(⟨g,0,O⟩:aX).add j=⟨g,j,O⟩:=by unfold Addr.add; split <;> simp_all
theorem add_pos (p:aX) (j:Nat) (h:j≠0):p.add j=⟨p.block,p.off+j,O⟩:=by unfold Addr.add; rw [if_neg h]
theorem add_zero (p:aX):p.add 0=p:=by unfold Addr.add; simp
theorem lt_of_heap {w:D} {b:Nat} {o:Obj} (h:w.heap[b]?=U o):b<w.heap.size:=by
 rcases aF b w.heap.size with h0|h0
 ·exact h0
 ·simp [Array.getElem?_eq_none h0] at h
theorem tq (w:D) (row:Option Nat):w.grownBy w row:=⟨rfl,rfl,rfl,ay _,fun _ _ _=>rfl⟩
def Row (E:Ek α) (W:D) (v:J) (l:List α):Prop :=
 (l=[]/\v=aB O 0 0)\/∃ (a:aX) (cap:Nat),v=aB (U a) l.length cap/\l.length<=cap/\cap<=maxLen/\∀ j u,(flat E l)[j]?=U u->W.cell? (a.add j)=U u
theorem Row.on {W W':D} {v:J} {l:List α} (h:Row E W v l) (hb:Below W.heap.size W W'):Row E W' v l:=by
 rcases h with h|⟨a,cap,h1,h2,h3,h5⟩
 ·exact aI h
 ·exact aO ⟨a,cap,h1,h2,h3,fun j u hj=>by
   have hc:=h5 j u hj;rw [hb.cell (World.block_lt_of_cell? W _ hc)]; exact hc⟩
theorem Row.len {W:D} {v:J} {l:List α} (h:Row E W v l):∃ ao cap,v=aB ao l.length cap:=by
 rcases h with⟨rfl,rfl⟩|⟨a,cap,rfl,_⟩
 ·exact⟨O,0,rfl⟩
 ·exact⟨_,cap,rfl⟩
theorem Row.most {W:D} {v:J} {l:List α} (h:Row E W v l):l.length<=maxLen:=by
 rcases h with⟨rfl,rfl⟩|⟨a,cap,rfl,h1,h2,_⟩
 ·exact Nat.zero_le _
 ·omega
theorem jo (W:D):Row E W (aB O 0 0) ([]:List α):=aI ⟨rfl,rfl⟩
abbrev Own (E:Ek α) (W:D) (B:Nat) (v:J) (l:List α):Prop:=W.ownsRow B E.t E.n v l.length (flat E l)
theorem Row.dJ {W:D} {B:Nat} {v:J} {l:List α} (h:Own E W B v l):Row E W v l:=by
 rcases h.2 with⟨h1,h2⟩|⟨g,cap,cur,h1,h2,h3,h4,h5,h6,h7⟩
 ·exact aI ⟨List.eq_nil_of_length_eq_zero h2,h1⟩
 ·exact aO ⟨⟨g,0,O⟩,cap,h1,h4,h5,fun j u hj=>h.cells (g:=g) (by rw [h1]; rfl) j u hj⟩
theorem dI {W W':D} {B k:Nat} {e:V} {v:J} {n:Nat} {xs:List J} (h:W.ownsRow B e k v n xs) (hb:Below W.heap.size W W'):W'.ownsRow B e k v n xs:=by
 refine⟨h.1,?_⟩;rcases h.2 with h2|⟨g,cap,cur,h1,h2,h3,h4⟩
 ·exact aI h2
 ·exact aO ⟨g,cap,cur,h1,h2,by rw [hb.block _ (lt_of_heap h3)]; exact h3,h4⟩
theorem rU {W:D} {B B' k:Nat} {e:V} {v:J} {n:Nat} {xs:List J} (hB:B'<=B) (h:W.ownsRow B e k v n xs):W.ownsRow B' e k v n xs:=by
 refine⟨h.1,?_⟩;rcases h.2 with h2|⟨g,cap,cur,h1,h2,h3⟩
 ·exact aI h2
 ·exact aO ⟨g,cap,cur,h1,bf hB h2,h3⟩
theorem iO (W:D) (B:Nat):Own E W B (aB O 0 0) ([]:List α):=World.ownsRow_nil _ _ _ _
theorem yU (K:E.Ok) (a:aX) (m len cap:Nat) (h:m<len) (w:D):(aJ E.ts (aB (U a) len cap) (bH .i64 m)).run au w=.ok (aY (U (a.add (m * E.n)))) w:=by
 have h1:(m:Int)<len:=by omega
 obtain⟨i,i1,i2,i3,i4⟩:=K.info;simp [go_sem,K.hu,sizeOf,typeInfo,h1,i1,i3]
theorem nT (K:E.Ok) (g m len cap:Nat) (h:m<len) (w:D):(aJ E.ts (aB (U ⟨g,0,O⟩) len cap) (bH .i64 m)).run au w=.ok (aY (U ⟨g,m * E.n,O⟩)) w:=by
 rw [yU K ⟨g,0,O⟩ m len cap h w,lY]
theorem qA (K:E.Ok) {W:D} {v:J} {l:List α} {ao:Option aX} {n c k:Nat} {x:α} (h:Row E W v l) (hv:v=aB ao n c) (hn:l.length=n) (hk:l[k]?=U x) :
  ∃ p:aX,(∀ w,(aJ E.ts (aB ao n c) (bH .i64 k)).run au w=.ok (aY (U p)) w)/\p.block<W.heap.size/\∀ w,Below W.heap.size W w->∀ j u,(E.cells x)[j]?=U u->w.cell? (p.add j)=U u:=by
 have hlt:=(Z.1 hk).1;rcases h with⟨rfl,_⟩|⟨a,cap,h1,h2,h3,h4⟩
 ·simp at hk
 ·rw [hv] at h1;obtain⟨rfl,rfl,rfl⟩:ao=U a/\n=l.length/\c=cap:=by simpa using h1
  have g:∀ j u,(E.cells x)[j]?=U u->W.cell? ((a.add (k * E.n)).add j)=U u:=fun j u hj=>by
   have hjn:j<E.n:=by have:=(Z.1 hj).1; rw [K.len] at this; exact this
   rw [add_add];exact h4 _ u ((AZ K l k x hk j hjn).trans hj)
  have hp:=K.pos;have hb:(a.add (k * E.n)).block<W.heap.size:=by
   obtain⟨u,hu⟩:∃ u,(E.cells x)[0]?=U u:=⟨_,List.getElem?_eq_getElem (by rw [K.len]; exact hp)⟩;have:=World.block_lt_of_cell? W _ (g 0 u hu)
   rwa [add_zero] at this
  exact⟨a.add (k * E.n),fun w=>yU K a k _ _ hlt w,hb,fun w hw j u hj=>by
   rw [hw.cell (by rw [add_block]; exact hb)];exact g j u hj⟩
theorem jZ (K:E.Ok) (a:aX) (k len cap:Nat) (h:k<=cap) (w:D):(aD E.ts (aB (U a) len cap) O (U (bH .i64 k)) O).run au w=.ok (aB (U a) k cap) w:=by
 have h1:(k:Int)<=cap:=by omega
 obtain⟨i,i1,i2,i3,i4⟩:=K.info;simp [go_sem,K.hu,sizeOf,typeInfo,h1,i1,i3]
theorem xK (K:E.Ok) (a:aX) (k len cap:Nat) (h:k<=len) (w:D):(aD E.ts (aB (U a) len cap) (U (bH .i64 k)) O O).run au w=.ok (aB (U (if cap=k then a else a.add (k * E.n))) (len-k) (cap-k)) w:=by
 have h1:(k:Int)<=len:=by omega
 obtain⟨i,i1,i2,i3,i4⟩:=K.info;by_cases he:cap=k
 ·subst he;simp [go_sem,K.hu,sizeOf,typeInfo,h1,i1,i3]
 ·simp [go_sem,K.hu,sizeOf,typeInfo,h1,he,i1,i3]
theorem wW (K:E.Ok) {W:D} {v:J} {l:List α} (h:Row E W v l) (k:Nat) (hk:k<=l.length):∃ lo,(∀ w,(aD E.ts v O (U (bH .i64 k)) O).run au w=.ok lo w)/\Row E W lo (l.take k):=by
 rcases h with⟨rfl,rfl⟩|⟨a,cap,rfl,h2,h3,h4⟩
 ·obtain rfl:k=0:=by simpa using hk
  obtain⟨i,i1,i2,i3,i4⟩:=K.info;exact⟨aB O 0 0,fun w=>by simp [go_sem,K.hu,sizeOf,typeInfo,i1],aI ⟨rfl,rfl⟩⟩
 ·refine⟨_,jZ K a k _ _ (by omega),aO ⟨a,cap,by rw [aL,aM hk],by simp; omega,h3,fun j u hj=>h4 j u ?_⟩⟩
  conv=>lhs; rw [<- aN k l,gK]
  exact Y (Z.1 hj).1 ▸ hj
theorem qB (K:E.Ok) {W:D} {v:J} {l:List α} (h:Row E W v l) (k:Nat) (hk:k<=l.length):∃ hi,(∀ w,(aD E.ts v (U (bH .i64 k)) O O).run au w=.ok hi w)/\Row E W hi (l.drop k):=by
 rcases h with⟨rfl,rfl⟩|⟨a,cap,rfl,h2,h3,h4⟩
 ·obtain rfl:k=0:=by simpa using hk
  obtain⟨i,i1,i2,i3,i4⟩:=K.info;exact⟨aB O 0 0,fun w=>by simp [go_sem,K.hu,sizeOf,typeInfo,i1],aI ⟨rfl,rfl⟩⟩
 ·refine⟨_,xK K a k _ _ hk,aO ⟨_,cap-k,by rw [aT],by rw [aT]; omega,by omega,fun j u hj=>?_⟩⟩;have hlt:=(Z.1 hj).1;have hne:(l.drop k)≠[]:=by rintro e; rw [e] at hlt; simp [flat] at hlt
  have hlk:k<l.length:=by
   rcases aF k l.length with h0|h0
   ·exact h0
   ·exact absurd (List.drop_eq_nil_of_le h0) hne
  rw [if_neg (by omega),add_add];refine h4 _ u ?_
  conv=>lhs; rw [<- aN k l,gK]
  rw [X (by rw [eD K,aL,aM hk]; omega),eD K,aL,aM hk,show k * E.n+j-k * E.n=j by omega];exact hj
theorem gZ (K:E.Ok) {w:D} (B:Nat) {v x:J} {l m:List α} (hown:Own E w B v l) (hx:Row E w x m) (hn:l.length<=1000) (hm:m.length<=1000) (hB:B<=w.heap.size) (ty:V) :
  ∃ v' w',(Builtin.append_ #[E.ts,E.ts] ty #[v,x]).run au w=.ok v' w'/\Own E w' B v' (l++m)/\w.grownBy w' v.ownBlock:=by
 obtain⟨i,i1,i2,i3,i4⟩:=K.info;rcases hx with⟨rfl,rfl⟩|⟨ad,c,rfl,h2,h3,h4⟩
 ·exact⟨v,w,run_append_owned_none (P:=au) (w:=w) B E.ts ty E.t i E.n K.hu i1 v _ _ hown,by simpa using hown,tq _ _⟩
 ·have hf:=K.few;obtain⟨v',w',r1,r2,r3,_⟩:=run_append_own (P:=au) w B E.ts ty E.t i E.z E.n E.bytes K.hu i1 i2 i3 i4 K.zs K.pos v _ _ hown ad m.length c (flat E m) (eD K m) h4 (nR K m) (by unfold maxLen; omega)
   (bf (Nat.mul_le_mul (show l.length+m.length<=2000 by omega) hf) (by decide)) hB
  exact⟨v',w',r1,by rw [Own,List.length_append,gK]; exact r2,r3⟩
theorem jC (K:E.Ok) (w:D) (l:List α) (n:Nat) (hn:n=l.length) (hl:l.length<=1000) (cs:Array J) (hcs:cs.toList=flat E l):Own E (w.alloc (.cells cs E.t)) w.heap.size (aB (U ⟨w.heap.size,0,O⟩) n n) l:=by
 subst hn;have hsz:cs.size=l.length * E.n:=by rw [<- eD K,<- hcs,aP]
 refine⟨eD K l,aO ⟨w.heap.size,l.length,cs,rfl,ay _,?_,ay _,by unfold maxLen; omega,hsz,?_⟩⟩
 ·show (w.heap.push _)[w.heap.size]?=_;simp
 ·rw [<- hcs,List.take_of_length_le (by rw [aP,hsz]; exact ay _)]
theorem JN (w:D):Own E (w.alloc (.cells #[] E.t)) w.heap.size (aB (U ⟨w.heap.size,0,O⟩) 0 0) ([]:List α):=by
 have h:=World.ownsRow_made (base:=w.heap.size) (e:=E.t) (size:=E.n) w #[] 0 (ay _) (by decide) (by simp);simpa [Own,flat] using h
def dK (W:D) (b:Nat) (cs:Array J) (t:V):Prop:=W.heap[b]?=U (.cells cs t (0,0))
theorem dK.cell {W:D} {b:Nat} {cs:Array J} {t:V} (h:dK W b cs t) (k:Nat):W.cell? ⟨b,k,O⟩=cs[k]?:=by
 unfold dK at h;simp [World.cell?,h]
theorem dK.fr {W:D} {b:Nat} {cs:Array J} {t:V} (h:dK W b cs t) (k:Nat):W.frozen? ⟨b,k,O⟩=ak:=by
 unfold dK at h;simp [World.frozen?,h]
theorem dK.cs2 {W:D} {b:Nat} {t:V} {a0 a1:J} (h:dK W b #[a0,a1] t):W.cell? ⟨b,0,O⟩=U a0/\W.cell? ⟨b,1,O⟩=U a1:=⟨h.cell 0,h.cell 1⟩
theorem dK.cs3 {W:D} {b:Nat} {t:V} {a0 a1 a2:J} (h:dK W b #[a0,a1,a2] t):W.cell? ⟨b,0,O⟩=U a0/\W.cell? ⟨b,1,O⟩=U a1/\W.cell? ⟨b,2,O⟩=U a2:=⟨h.cell 0,h.cell 1,h.cell 2⟩
theorem dK.Bt {W:D} {b:Nat} {t:V} {a0 a1 a2 a3:J} (h:dK W b #[a0,a1,a2,a3] t):W.cell? ⟨b,0,O⟩=U a0/\W.cell? ⟨b,1,O⟩=U a1/\W.cell? ⟨b,2,O⟩=U a2/\W.cell? ⟨b,3,O⟩=U a3:=⟨h.cell 0,h.cell 1,h.cell 2,h.cell 3⟩
theorem dK.cs5 {W:D} {b:Nat} {t:V} {a0 a1 a2 a3 a4:J} (h:dK W b #[a0,a1,a2,a3,a4] t):W.cell? ⟨b,0,O⟩=U a0/\W.cell? ⟨b,1,O⟩=U a1/\W.cell? ⟨b,2,O⟩=U a2/\W.cell? ⟨b,3,O⟩=U a3/\W.cell? ⟨b,4,O⟩=U a4:=⟨h.cell 0,h.cell 1,h.cell 2,h.cell 3,h.cell 4⟩
theorem dK.fD {W:D} {b:Nat} {t:V} {a0 a1 a2 a3 a4 a5:J} (h:dK W b #[a0,a1,a2,a3,a4,a5] t):W.cell? ⟨b,0,O⟩=U a0/\W.cell? ⟨b,1,O⟩=U a1/\W.cell? ⟨b,2,O⟩=U a2/\W.cell? ⟨b,3,O⟩=U a3/\W.cell? ⟨b,4,O⟩=U a4/\W.cell? ⟨b,5,O⟩=U a5:=⟨h.cell 0,h.cell 1,h.cell 2,h.cell 3,h.cell 4,h.cell 5⟩
theorem dK.pG {W:D} {b:Nat} {t:V} {a0 a1 a2 a3 a4 a5 a6:J} (h:dK W b #[a0,a1,a2,a3,a4,a5,a6] t):W.cell? ⟨b,0,O⟩=U a0/\W.cell? ⟨b,1,O⟩=U a1/\W.cell? ⟨b,2,O⟩=U a2/\W.cell? ⟨b,3,O⟩=U a3/\W.cell? ⟨b,4,O⟩=U a4/\W.cell? ⟨b,5,O⟩=U a5/\W.cell? ⟨b,6,O⟩=U a6:=⟨h.cell 0,h.cell 1,h.cell 2,h.cell 3,h.cell 4,h.cell 5,h.cell 6⟩
theorem dK.fs2 {W:D} {b:Nat} {cs:Array J} {t:V} (h:dK W b cs t):W.frozen? ⟨b,0,O⟩=ak/\W.frozen? ⟨b,1,O⟩=ak:=⟨h.fr 0,h.fr 1⟩
theorem dK.fs4 {W:D} {b:Nat} {cs:Array J} {t:V} (h:dK W b cs t):W.frozen? ⟨b,0,O⟩=ak/\W.frozen? ⟨b,1,O⟩=ak/\W.frozen? ⟨b,2,O⟩=ak/\W.frozen? ⟨b,3,O⟩=ak:=⟨h.fr 0,h.fr 1,h.fr 2,h.fr 3⟩
theorem dK.kK {W:D} {b:Nat} {cs:Array J} {t:V} (h:dK W b cs t):W.frozen? ⟨b,0,O⟩=ak/\W.frozen? ⟨b,1,O⟩=ak/\W.frozen? ⟨b,2,O⟩=ak/\W.frozen? ⟨b,3,O⟩=ak/\W.frozen? ⟨b,4,O⟩=ak/\W.frozen? ⟨b,5,O⟩=ak:=⟨h.fr 0,h.fr 1,h.fr 2,h.fr 3,h.fr 4,h.fr 5⟩
theorem dK.fs7 {W:D} {b:Nat} {cs:Array J} {t:V} (h:dK W b cs t):W.frozen? ⟨b,0,O⟩=ak/\W.frozen? ⟨b,1,O⟩=ak/\W.frozen? ⟨b,2,O⟩=ak/\W.frozen? ⟨b,3,O⟩=ak/\W.frozen? ⟨b,4,O⟩=ak/\W.frozen? ⟨b,5,O⟩=ak/\W.frozen? ⟨b,6,O⟩=ak:=⟨h.fr 0,h.fr 1,h.fr 2,h.fr 3,h.fr 4,h.fr 5,h.fr 6⟩
theorem dK.lt {W:D} {b:Nat} {cs:Array J} {t:V} (h:dK W b cs t):b<W.heap.size:=lt_of_heap h
theorem dK.on {W W':D} {b:Nat} {cs:Array J} {t:V} (h:dK W b cs t) (hb:Below W.heap.size W W'):dK W' b cs t:=by
 have hl:=h.lt;unfold dK at *;rw [hb.block _ hl]; exact h
theorem dK.more {W:D} {b:Nat} {cs:Array J} {t:V} (h:dK W b cs t) (o:Obj):dK (W.alloc o) b cs t:=h.on ((Below.refl _ _).alloc (ay _) _)
theorem dQ (W:D) (cs:Array J) (t:V):dK (W.alloc (.cells cs t)) W.heap.size cs t:=by
 unfold dK;show (W.heap.push _)[W.heap.size]?=_;simp
theorem wpList_append_run {P:Program} {ops:Array Oper} {rest:List Oper} {o:Oper} {a:bF} {Q:Exit->bF->D->Prop} {w w':D} (hgd:o.guard=O) (s x:aj) (t:V)
  (ho:o.op=.call { callee:=.builtin .append,args:=#[s,x],argTypes:=#[t,t] }) {v xv v':J} (hs:a.eval s=v) (hx:a.eval x=xv) (hr:(Builtin.append_ #[t,t] o.type #[v,xv]).run P w=.ok v' w')
  (h:wpList P ops Q rest (a.put o.dst v') w'):wpList P ops Q (o::rest) a w:=by
 refine wpList_plain hgd fun K hK=>?_;unfold Oper.wp execOp;simp only [ho,resolve,invoke,builtin,Sem.run_bind,Sem.run_pure,Result.andThen_ok,List.map_toArray,List.map_cons,List.map_nil,hs,hx,hr];exact hK _ _ h
def kM (k:Nat):Code->Option Code
 | .block id c=>if id=k then U (.block id c) else kM k c
 | .seq a b=>match kM k a with
  | some c=>U c
  | none=>kM k b
 | .cond _ a b=>match kM k a with
  | some c=>U c
  | none=>kM k b
 | .loop c=>kM k c
 | .scope c=>kM k c
 | _=>O
def eO (k:Nat):Code->Option Code
 | .region id ops d=>if id=k then U (.region id ops d) else O
 | .seq a b=>match eO k a with
  | some c=>U c
  | none=>eO k b
 | .cond _ a b=>match eO k a with
  | some c=>U c
  | none=>eO k b
 | .block _ c=>eO k c
 | .loop c=>eO k c
 | .scope c=>eO k c
 | _=>O
end Rw
namespace Rg
open Go.RowKit
def left (L:Array Bool):Nat:=L.toList.countP (fun b=>!b)
theorem Wj (L:Array Bool) (i:Nat) (h:L.getD i aG=ak):left (L.setIfInBounds i aG)+1=left L:=by
 obtain⟨l⟩:=L;have hi:i<l.length:=by
  rcases aF i l.length with h0|h0
  ·exact h0
  ·exact absurd h (by simp [ah,bG.2 h0])
 have hv:l[i]=ak:=by simpa [ah,hi] using h
 unfold left;simp only [List.setIfInBounds_toArray];rw [List.countP_set hi,hv];have hp:0<l.countP (fun b=>!b):=List.countP_pos_iff.2 ⟨l[i],aU hi,by rw [hv]; rfl⟩;simp;omega
theorem Tf (L:Array Bool) (h:left L=0) (i:Nat):L.getD i aG=aG:=by
 obtain⟨l⟩:=L;unfold left at h;rw [List.countP_eq_zero] at h;rcases aF i l.length with h0|h0
 ·have:=h l[i] (aU h0);simp [ah,h0];simpa using this
 ·simp [ah,bG.2 h0]
def JO (ops:Array Oper):Bool:=(List.range ops.size).all fun i=>match ops[i]? with
 | some o=>o.after.all fun e=>!Region.binds .any e || decide (e.on<i)
 | none=>aG
def done (L:Array Bool) (i:Nat):Prop:=L.getD i ak=aG
theorem JQ {ops:Array Oper} (hf:JO ops=aG) {L:Array Bool} (hs:L.size=ops.size) (h:aS .any ops L=[]):∀ n,n<=ops.size->∀ i,i<n->done L i:=by
 intro n
 induction n with
 | zero=>intro _ i hi; omega
 | succ n ih =>
  intro hn i hi;rcases aF i n with h1|h1
  ·exact ih (by omega) i h1
  ·obtain rfl:i=n:=by omega
   cases hd:L.getD i aG
   ·exfalso;have hm:i∈aS .any ops L:=by
     rw [mem_ready];refine⟨hd,ops[i],aH (by omega),fun e he hbd=>?_⟩;have h2:=List.all_eq_true.1 hf i (List.mem_range.2 (by omega));rw [aH (by omega)] at h2;have h3:=Array.all_eq_true'.1 h2 e he;rw [hbd] at h3;exact ih (by omega) e.on (by simpa using h3)
    rw [h] at hm;cases hm
   ·unfold done;have hi2:i<L.size:=by omega
    simp [ah,hi2] at hd ⊢;exact hd
section
variable {P:Program} {ops:Array Oper} {Q:Exit->bF->D->Prop}
theorem Nw (I:Array Bool->bF->D->Prop) (hf:JO ops=aG)
  (hstep:∀ L a w i o,L.size=ops.size->I L a w->ops[i]?=U o->¬ done L i->(∀ e∈o.after,bg .any e=aG->done L e.on)->wpOp P ops Q i (I (L.setIfInBounds i aG)) a w)
  (hend:∀ L a w,I L a w->(∀ i,i<ops.size->done L i)->Q .normal a w) :
  ∀ (fuel:Nat) (L:Array Bool) (a:bF) (w:D),L.size=ops.size->left L<=fuel->I L a w->wpAny P .any ops Q fuel L a w:=by
 intro fuel
 induction fuel with
 | zero =>
  intro L a w hs hl hI;have hr:aS .any ops L=[]:=by
   rw [List.eq_nil_iff_forall_not_mem];intro i hi;have h1:=(mem_ready.1 hi).1;rw [Tf L (by omega) i] at h1;cases h1
  exact⟨hr,hend L a w hI (JQ hf hs hr ops.size (ay _))⟩
 | succ fuel ih =>
  intro L a w hs hl hI;refine⟨fun hr=>hend L a w hI (JQ hf hs hr ops.size (ay _)),fun i hi=>?_⟩;obtain⟨h1,o,h2,h3⟩:=mem_ready.1 hi;have hlt:i<ops.size:=(aA.1 h2).1;have hnd:¬ done L i:=by
   unfold done;have:i<L.size:=by omega
   simp [ah,this] at h1 ⊢;exact h1
  have hst:=hstep L a w i o hs hI h2 hnd (fun e he hb=>h3 e he hb);have hmono:∀ a' w',I (L.setIfInBounds i aG) a' w'->wpAny P .any ops Q fuel (L.setIfInBounds i aG) a' w':=fun a' w' h =>
   ih _ a' w' (by simpa using hs) (by have:=Wj L i h1; omega) h
  unfold wpOp at hst ⊢;rw [h2] at hst ⊢;simp only at hst ⊢
  split at hst
  ·rename_i hw
   rw [if_pos hw];rcases hst with hst|hst
   ·exact aI (Oper.wp_mono hmono hst)
   ·exact aO hst
  ·rename_i hw
   rw [if_neg hw];exact hmono _ _ hst
theorem nU (I:Array Bool->bF->D->Prop) {id:Nat} {a:bF} {w:D} {l:List Oper} (hm:P.follows .mixedOrders=aG) (hf:JO l.toArray=aG)
  (h0:I (aW l.length ak) a { w with drawn:=w.drawn+1 })
  (hstep:∀ L a w i o,L.size=l.length->I L a w->l[i]?=U o->¬ done L i->(∀ e∈o.after,bg .any e=aG->done L e.on)->wpOp P l.toArray Q i (I (L.setIfInBounds i aG)) a w)
  (hend:∀ L a w,I L a w->(∀ i,i<l.length->done L i)->Q .normal a w):(Code.region id l.toArray aG).wp P Q a w:=by
 refine wp_region_any hm (Nw (ops:=l.toArray) I hf (fun L a w i o hs hI ho=>hstep L a w i o (by simpa using hs) hI (by simpa using ho)) (fun L a w hI hd=>hend L a w hI (by simpa using hd)) _ _ _ _ (by simp) ?_ (by simpa using h0));unfold left;have h2:=List.countP_le_length (p:=fun b:Bool=>!b) (l:=List.replicate l.length ak);simpa using h2
end
theorem iw {L:Array Bool} {i:Nat} (h:i<L.size) (j:Nat):done (L.setIfInBounds i aG) j↔j=i\/done L j:=by
 unfold done;by_cases e:j=i
 ·subst e; simp [ah,h]
 ·by_cases hj:j<L.size
  ·have h2:i≠j:=fun x=>e x.symm;simp [ah,hj,e,h2]
  ·simp [ah,hj,e]
theorem gF (n j:Nat):¬ done (aW n ak) j:=by
 unfold done;by_cases hj:j<n <;> simp [ah,hj]
theorem dG {P:Program} {ops:Array Oper} {Q:Exit->bF->D->Prop} {K:bF->D->Prop} {a:bF} {w w':D} {i:Nat} {o:Oper} {v:J}
  (ho:ops[i]?=U o) (hg:o.guard=O) (hr:(execOp a.eval o).run P w=.ok (.value v) w') (h:K (a.put o.dst v) w'):wpOp P ops Q i K a w:=by
 unfold wpOp;rw [ho];have hw:aK o (yielded ops a.tmps)=aG:=by simp [aK,hg]
 simp only [hw,if_true];refine aI ?_;unfold Oper.wp;rw [hr];exact h
theorem ady {P:Program} {s:Sem J} {w w':D} {v:J} (h:s.run P w=.ok v w'):(do pure (Next.value (<- s)):Sem Next).run P w=.ok (.value v) w':=by
 simp [go_sem,h]
theorem gQ {P:Program} (ρ:aj->J) (o:Oper) (s x:aj) (t:V) (ho:o.op=.call { callee:=.builtin .append,args:=#[s,x],argTypes:=#[t,t] }) {v x' v':J} {w w':D}
  (hs:ρ s=v) (hx:ρ x=x') (hrun:(Builtin.append_ #[t,t] o.type #[v,x']).run P w=.ok v' w'):(execOp ρ o).run P w=.ok (.value v') w':=by
 simp [execOp,ho,resolve,invoke,builtin,hs,hx,hrun,aC]
theorem lJ {P:Program} (ρ:aj->J) (o:Oper) (t:V) (x:aj) (l h m:Option aj) (ho:o.op=.slice t x l h m) {v:J} {w:D} (hr:(aD t (ρ x) (l.map ρ) (h.map ρ) (m.map ρ)).run P w=.ok v w) :
  (execOp ρ o).run P w=.ok (.value v) w:=by
 simp [execOp,ho,hr,aC]
theorem qC {P:Program} (ρ:aj->J) (o:Oper) (t:V) (x i:aj) (ho:o.op=.indexAddr t x i) {v:J} {w:D} (hr:(aJ t (ρ x) (ρ i)).run P w=.ok v w) :
  (execOp ρ o).run P w=.ok (.value v) w:=by
 simp [execOp,ho,hr,aC]
theorem dU {P:Program} (ρ:aj->J) (o:Oper) (t:V) (x:aj) (ho:o.op=.load t x) {v:J} {w:D} (hr:(aZ t (ρ x)).run P w=.ok v w) :
  (execOp ρ o).run P w=.ok (.value v) w:=by
 simp [execOp,ho,hr,aC]
theorem iY {P:Program} (ρ:aj->J) (o:Oper) (t:V) (n:Nat) (parts:Array (Nat×aj)) (ho:o.op=.buildSlice t n parts) {ps:Array (Nat×J)} (hp:parts.map (fun x=>(x.1,ρ x.2))=ps) {v:J} {w w':D} (hr:(Instr.buildSlice t n ps).run P w=.ok v w') :
  (execOp ρ o).run P w=.ok (.value v) w':=by
 subst hp;simp [execOp,ho,hr,aC]
theorem gD {P:Program} (ρ:aj->J) (o:Oper) (x:aj) (ho:o.op=.move x) (w:D):(execOp ρ o).run P w=.ok (.value (ρ x)) w:=by
 simp [execOp,ho]
theorem kP {P:Program} (ρ:aj->J) (o:Oper) (x:aj) (ho:o.op=.assign x) (w:D):(execOp ρ o).run P w=.ok (.value (ρ x)) w:=by
 simp [execOp,ho]
theorem size_put (a:bF) (d:Nat) (v:J):(a.put (U d) v).tmps.size=a.tmps.size:=by simp [Act.put]
theorem get_put (a:bF) (d:Nat) (v:J) (j:Nat) (hd:j≠d):(a.put (U d) v).tmps[j]?=a.tmps[j]?:=by
 have h2:d≠j:=fun x=>hd x.symm;simp [Act.put,h2]
theorem dP {a:bF} {j:Nat} {v:J} (h:a.tmps[j]?=U v):a.eval (.tmp j)=v:=by
 have h1:=(aA.1 h).1;have h2:=(aA.1 h).2;simp [Act.eval,ah,h1,h2]
theorem abJ {P:Program} {ops:Array Oper} {Q:Exit->bF->D->Prop} {K:bF->D->Prop} {a:bF} {w w':D} {i:Nat} {o:Oper}
  (ho:ops[i]?=U o) (hg:o.guard=O) (hr:(execOp a.eval o).run P w=.ok .skip w') (h:K (a.put o.dst undef) w'):wpOp P ops Q i K a w:=by
 unfold wpOp;rw [ho];have hw:aK o (yielded ops a.tmps)=aG:=by simp [aK,hg]
 simp only [hw,if_true];refine aI ?_;unfold Oper.wp;rw [hr];exact h
theorem gM {a:bF} {bl:List J} (d0 m:Nat) (df:a.defers=[]) (sz:a.tmps.size=bl.length) (hle:d0+m<=bl.length) (kp:∀ j,(j<d0\/d0+m<=j)->a.tmps[j]?=bl[j]?) :
  ∃ mid:List J,mid.length=m/\a=⟨(bl.take d0++(mid++bl.drop (d0+m))).toArray,[]⟩:=by
 obtain⟨tmps,defers⟩:=a;have hd:defers=[]:=df;have hs:tmps.size=bl.length:=sz;have hk:∀ j,(j<d0\/d0+m<=j)->tmps[j]?=bl[j]?:=kp;subst hd;have hl:((tmps.toList.drop d0).take m).length=m:=by simp; omega
 refine⟨(tmps.toList.drop d0).take m,hl,congrArg (fun x=>(⟨x,[]⟩:bF)) ?_⟩;apply Array.ext_getElem?;intro j
 conv=>rhs; rw [List.getElem?_toArray]
 by_cases h1:j<d0
 ·rw [hk j (aI h1),Y (by simp; omega),aQ,if_pos h1]
 ·have ht:(bl.take d0).length=d0:=by simp; omega
  rw [X (by omega),ht];by_cases h2:j<d0+m
  ·rw [Y (by omega),aQ,if_pos (by omega),aR,Array.getElem?_toList,show d0+(j-d0)=j by omega]
  ·rw [hk j (aO (by omega)),X (by omega),hl,aR,show d0+m+(j-d0-m)=j by omega]
end Rg
end Go.Proofs.YtghlpefopidlaaaGreat
