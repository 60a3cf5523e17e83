/-
  Rows of elements of . Conditions as told.
-/
import Derived.Test.YtkcfgbddlpomgaaGreatProg
import Derived.WalkKit
import Derived.ProofKit
import Derived.Laws.AppendOwn
import Derived.Laws.OwnMore
import Derived.Laws.MakeOwn
import Derived.Laws.CopyRow
import Derived.Deep.Slices
import Derived.Deep.CutBlock
import Derived.Deep.Cut
set_option maxRecDepth 100000
set_option maxHeartbeats 64000000
open _root_.Bool renaming false->Z
open _root_.Go renaming World->L,Value->O,TypeId->U,Addr->aG,maxLen->aK
open Go.Instr renaming sliceAt->au,indexAt->aC
open Go.Proofs.Tryz renaming prog->X
open Go.Value renaming slice->Y,pointer->aH,int->aL
open _root_.List renaming getElem?_eq_some_iff->V,getElem?_append_right->aj,getElem?_append_left->ak,length_take->ay,take_append_drop->aB,length_drop->aD
open _root_.Nat renaming le_refl->ah,min_eq_left->aA,add_mul->aF,lt_or_ge->aI,le_trans->aJ
open _root_.Option renaming none->D,some->J
namespace Go.Proofs.YtkcfgbddlpomgaaGreat.Rw
open Go.RowKit
structure Ek (α:Type) where
 t:U
 ts:U
 n:Nat
 bytes:Nat
 z:O
 val:α->O
 cells:α->List O
structure Ek.Ok {α:Type} (E:Ek α):Prop where
 hu:Tryz.prog.underlying E.ts=J (.slice E.t)
 info:∃ i,Tryz.prog.info? E.t=J i/\i.zero=J E.z/\i.size=E.n/\i.bytes=E.bytes
 zs:E.z.cells.size=E.n
 len:∀ x,(E.cells x).length=E.n
 one:∀ x,∀ u∈E.cells x,u.oneCell'=true
 pos:0<E.n
 few:E.bytes<=100000
 load:∀ (w:L) (p:aG) (x:α),(∀ j u,(E.cells x)[j]?=J u->w.cell? (p.add j)=J u)->(Instr.loadAt E.t (aH (J p))).run X w=.ok (E.val x) w
variable {α:Type} {E:Ek α}
def flat (E:Ek α):List α->List O
 | []=>[]
 | x::r=>E.cells x++flat E r
theorem gI:∀ a b:List α,flat E (a++b)=flat E a++flat E b
 | [],b=>rfl
 | x::r,b=>by simp [flat,gI r b]
theorem Pm (x:α):flat E [x]=E.cells x:=by simp [flat]
theorem eF (K:E.Ok):∀ l:List α,(flat E l).length=l.length * E.n
 | []=>by simp [flat]
 | x::r=>by simp [flat,eF K r,K.len x,aF]; omega
theorem oU (K:E.Ok):∀ l:List α,∀ u∈flat E l,u.oneCell'=true
 | [],u,h=>by cases h
 | x::r,u,h=>by
  simp only [flat,List.mem_append] at h;rcases h with h|h
  ·exact K.one x u h
  ·exact oU K r u h
theorem Fg (K:E.Ok):∀ (l:List α) (m:Nat) (x:α),l[m]?=J x->∀ j,j<E.n->(flat E l)[m * E.n+j]?=(E.cells x)[j]?
 | [],m,x,h,_,_=>by simp at h
 | y::r,0,x,h,j,hj=>by
  simp at h;subst h;simp only [flat];rw [Nat.zero_mul,Nat.zero_add,ak (by rw [K.len]; exact hj)]
 | y::r,m+1,x,h,j,hj=>by
  have h2:=Fg K r m x (by simpa using h) j hj;simp only [flat];rw [aj (by rw [K.len,aF]; omega),K.len,show (m+1) * E.n+j-E.n=m * E.n+j by rw [aF]; omega];exact h2
theorem add_add (a:aG) (i j:Nat):(a.add i).add j=a.add (i+j):=by
 unfold Addr.add;by_cases hi:i=0 <;> by_cases hj:j=0 <;> simp [hi,hj,Nat.add_assoc]
theorem add_block (a:aG) (i:Nat):(a.add i).block=a.block:=by unfold Addr.add; split <;> rfl
theorem lS (g j:Nat):(⟨g,0,D⟩:aG).add j=⟨g,j,D⟩:=by unfold Addr.add; split <;> simp_all
theorem add_pos (p:aG) (j:Nat) (h:j≠0):p.add j=⟨p.block,p.off+j,D⟩:=by unfold Addr.add; rw [if_neg h]
theorem add_zero (p:aG):p.add 0=p:=by unfold Addr.add; simp
theorem lt_of_heap {w:L} {b:Nat} {o:Obj} (h:w.heap[b]?=J o):b<w.heap.size:=by
 rcases aI b w.heap.size with h0|h0
 ·exact h0
 ·simp [Array.getElem?_eq_none h0] at h
theorem sF (w:L) (row:Option Nat):w.grownBy w row:=⟨rfl,rfl,rfl,ah _,fun _ _ _=>rfl⟩
def Row (E:Ek α) (W:L) (v:O) (l:List α):Prop :=
 (l=[]/\v=Y D 0 0)\/∃ (a:aG) (cap:Nat),v=Y (J a) l.length cap/\l.length<=cap/\cap<=aK/\∀ j u,(flat E l)[j]?=J u->W.cell? (a.add j)=J u
theorem Row.on {W W':L} {v:O} {l:List α} (h:Row E W v l) (hb:Below W.heap.size W W'):Row E W' v l:=by
 rcases h with h|⟨a,cap,h1,h2,h3,h5⟩
 ·exact Or.inl h
 ·exact Or.inr ⟨a,cap,h1,h2,h3,fun j u hj=>by
   have hc:=h5 j u hj;rw [hb.cell (World.block_lt_of_cell? W _ hc)]; exact hc⟩
theorem Row.len {W:L} {v:O} {l:List α} (h:Row E W v l):∃ ao cap,v=Y ao l.length cap:=by
 rcases h with⟨rfl,rfl⟩|⟨a,cap,rfl,_⟩
 ·exact⟨D,0,rfl⟩
 ·exact⟨_,cap,rfl⟩
theorem Row.most {W:L} {v:O} {l:List α} (h:Row E W v l):l.length<=aK:=by
 rcases h with⟨rfl,rfl⟩|⟨a,cap,rfl,h1,h2,_⟩
 ·exact Nat.zero_le _
 ·omega
theorem je (W:L):Row E W (Y D 0 0) ([]:List α):=Or.inl ⟨rfl,rfl⟩
abbrev Own (E:Ek α) (W:L) (B:Nat) (v:O) (l:List α):Prop:=W.ownsRow B E.t E.n v l.length (flat E l)
theorem Row.dH {W:L} {B:Nat} {v:O} {l:List α} (h:Own E W B v l):Row E W v l:=by
 rcases h.2 with⟨h1,h2⟩|⟨g,cap,cur,h1,h2,h3,h4,h5,h6,h7⟩
 ·exact Or.inl ⟨List.eq_nil_of_length_eq_zero h2,h1⟩
 ·exact Or.inr ⟨⟨g,0,D⟩,cap,h1,h4,h5,fun j u hj=>h.cells (g:=g) (by rw [h1]; rfl) j u hj⟩
theorem dG {W W':L} {B k:Nat} {e:U} {v:O} {n:Nat} {xs:List O} (h:W.ownsRow B e k v n xs) (hb:Below W.heap.size W W'):W'.ownsRow B e k v n xs:=by
 refine⟨h.1,?_⟩;rcases h.2 with h2|⟨g,cap,cur,h1,h2,h3,h4⟩
 ·exact Or.inl h2
 ·exact Or.inr ⟨g,cap,cur,h1,h2,by rw [hb.block _ (lt_of_heap h3)]; exact h3,h4⟩
theorem nP {W:L} {B B' k:Nat} {e:U} {v:O} {n:Nat} {xs:List O} (hB:B'<=B) (h:W.ownsRow B e k v n xs):W.ownsRow B' e k v n xs:=by
 refine⟨h.1,?_⟩;rcases h.2 with h2|⟨g,cap,cur,h1,h2,h3⟩
 ·exact Or.inl h2
 ·exact Or.inr ⟨g,cap,cur,h1,aJ hB h2,h3⟩
theorem gB (W:L) (B:Nat):Own E W B (Y D 0 0) ([]:List α):=World.ownsRow_nil _ _ _ _
theorem xL (K:E.Ok) (a:aG) (m len cap:Nat) (h:m<len) (w:L):(aC E.ts (Y (J a) len cap) (aL .i64 m)).run X w=.ok (aH (J (a.add (m * E.n)))) w:=by
 have h1:(m:Int)<len:=by omega
 obtain⟨i,i1,i2,i3,i4⟩:=K.info;simp [go_sem,K.hu,sizeOf,typeInfo,h1,i1,i3]
theorem oW (K:E.Ok) (g m len cap:Nat) (h:m<len) (w:L):(aC E.ts (Y (J ⟨g,0,D⟩) len cap) (aL .i64 m)).run X w=.ok (aH (J ⟨g,m * E.n,D⟩)) w:=by
 rw [xL K ⟨g,0,D⟩ m len cap h w,lS]
theorem nC (K:E.Ok) {W:L} {v:O} {l:List α} {ao:Option aG} {n c k:Nat} {x:α} (h:Row E W v l) (hv:v=Y ao n c) (hn:l.length=n) (hk:l[k]?=J x) :
  ∃ p:aG,(∀ w,(aC E.ts (Y ao n c) (aL .i64 k)).run X w=.ok (aH (J p)) w)/\p.block<W.heap.size/\∀ w,Below W.heap.size W w->∀ j u,(E.cells x)[j]?=J u->w.cell? (p.add j)=J u:=by
 have hlt:=(V.1 hk).1;rcases h with⟨rfl,_⟩|⟨a,cap,h1,h2,h3,h4⟩
 ·simp at hk
 ·rw [hv] at h1;obtain⟨rfl,rfl,rfl⟩:ao=J a/\n=l.length/\c=cap:=by simpa using h1
  have g:∀ j u,(E.cells x)[j]?=J u->W.cell? ((a.add (k * E.n)).add j)=J u:=fun j u hj=>by
   have hjn:j<E.n:=by have:=(V.1 hj).1; rw [K.len] at this; exact this
   rw [add_add];exact h4 _ u ((Fg K l k x hk j hjn).trans hj)
  have hp:=K.pos;have hb:(a.add (k * E.n)).block<W.heap.size:=by
   obtain⟨u,hu⟩:∃ u,(E.cells x)[0]?=J u:=⟨_,List.getElem?_eq_getElem (by rw [K.len]; exact hp)⟩;have:=World.block_lt_of_cell? W _ (g 0 u hu)
   rwa [add_zero] at this
  exact⟨a.add (k * E.n),fun w=>xL K a k _ _ hlt w,hb,fun w hw j u hj=>by
   rw [hw.cell (by rw [add_block]; exact hb)];exact g j u hj⟩
theorem nQ (K:E.Ok) (a:aG) (k len cap:Nat) (h:k<=cap) (w:L):(au E.ts (Y (J a) len cap) D (J (aL .i64 k)) D).run X w=.ok (Y (J a) k cap) w:=by
 have h1:(k:Int)<=cap:=by omega
 obtain⟨i,i1,i2,i3,i4⟩:=K.info;simp [go_sem,K.hu,sizeOf,typeInfo,h1,i1,i3]
theorem zI (K:E.Ok) (a:aG) (k len cap:Nat) (h:k<=len) (w:L):(au E.ts (Y (J a) len cap) (J (aL .i64 k)) D D).run X w=.ok (Y (J (if cap=k then a else a.add (k * E.n))) (len-k) (cap-k)) w:=by
 have h1:(k:Int)<=len:=by omega
 obtain⟨i,i1,i2,i3,i4⟩:=K.info;by_cases he:cap=k
 ·subst he;simp [go_sem,K.hu,sizeOf,typeInfo,h1,i1,i3]
 ·simp [go_sem,K.hu,sizeOf,typeInfo,h1,he,i1,i3]
theorem vL (K:E.Ok) {W:L} {v:O} {l:List α} (h:Row E W v l) (k:Nat) (hk:k<=l.length):∃ lo,(∀ w,(au E.ts v D (J (aL .i64 k)) D).run X w=.ok lo w)/\Row E W lo (l.take k):=by
 rcases h with⟨rfl,rfl⟩|⟨a,cap,rfl,h2,h3,h4⟩
 ·obtain rfl:k=0:=by simpa using hk
  obtain⟨i,i1,i2,i3,i4⟩:=K.info;exact⟨Y D 0 0,fun w=>by simp [go_sem,K.hu,sizeOf,typeInfo,i1],Or.inl ⟨rfl,rfl⟩⟩
 ·refine⟨_,nQ K a k _ _ (by omega),Or.inr ⟨a,cap,by rw [ay,aA hk],by simp; omega,h3,fun j u hj=>h4 j u ?_⟩⟩
  conv=>lhs; rw [<- aB k l,gI]
  exact ak (V.1 hj).1 ▸ hj
theorem qH (K:E.Ok) {W:L} {v:O} {l:List α} (h:Row E W v l) (k:Nat) (hk:k<=l.length):∃ hi,(∀ w,(au E.ts v (J (aL .i64 k)) D D).run X w=.ok hi w)/\Row E W hi (l.drop k):=by
 rcases h with⟨rfl,rfl⟩|⟨a,cap,rfl,h2,h3,h4⟩
 ·obtain rfl:k=0:=by simpa using hk
  obtain⟨i,i1,i2,i3,i4⟩:=K.info;exact⟨Y D 0 0,fun w=>by simp [go_sem,K.hu,sizeOf,typeInfo,i1],Or.inl ⟨rfl,rfl⟩⟩
 ·refine⟨_,zI K a k _ _ hk,Or.inr ⟨_,cap-k,by rw [aD],by rw [aD]; omega,by omega,fun j u hj=>?_⟩⟩;have hlt:=(V.1 hj).1;have hne:(l.drop k)≠[]:=by rintro e; rw [e] at hlt; simp [flat] at hlt
  have hlk:k<l.length:=by
   rcases aI k l.length with h0|h0
   ·exact h0
   ·exact absurd (List.drop_eq_nil_of_le h0) hne
  rw [if_neg (by omega),add_add];refine h4 _ u ?_
  conv=>lhs; rw [<- aB k l,gI]
  rw [aj (by rw [eF K,ay,aA hk]; omega),eF K,ay,aA hk,show k * E.n+j-k * E.n=j by omega];exact hj
theorem gG (K:E.Ok) {w:L} (B:Nat) {v x:O} {l m:List α} (hown:Own E w B v l) (hx:Row E w x m) (hn:l.length<=1000) (hm:m.length<=1000) (hB:B<=w.heap.size) (ty:U) :
  ∃ v' w',(Builtin.append_ #[E.ts,E.ts] ty #[v,x]).run X w=.ok v' w'/\Own E w' B v' (l++m)/\w.grownBy w' v.ownBlock:=by
 obtain⟨i,i1,i2,i3,i4⟩:=K.info;rcases hx with⟨rfl,rfl⟩|⟨ad,c,rfl,h2,h3,h4⟩
 ·exact⟨v,w,run_append_owned_none (P:=X) (w:=w) B E.ts ty E.t i E.n K.hu i1 v _ _ hown,by simpa using hown,sF _ _⟩
 ·have hf:=K.few;obtain⟨v',w',r1,r2,r3,_⟩:=run_append_own (P:=X) w B E.ts ty E.t i E.z E.n E.bytes K.hu i1 i2 i3 i4 K.zs K.pos v _ _ hown ad m.length c (flat E m) (eF K m) h4 (oU K m) (by unfold aK; omega)
   (aJ (Nat.mul_le_mul (show l.length+m.length<=2000 by omega) hf) (by decide)) hB
  exact⟨v',w',r1,by rw [Own,List.length_append,gI]; exact r2,r3⟩
theorem iD (K:E.Ok) (w:L) (l:List α) (n:Nat) (hn:n=l.length) (hl:l.length<=1000) (cs:Array O) (hcs:cs.toList=flat E l):Own E (w.alloc (.cells cs E.t)) w.heap.size (Y (J ⟨w.heap.size,0,D⟩) n n) l:=by
 subst hn;have hsz:cs.size=l.length * E.n:=by rw [<- eF K,<- hcs,Array.length_toList]
 refine⟨eF K l,Or.inr ⟨w.heap.size,l.length,cs,rfl,ah _,?_,ah _,by unfold aK; omega,hsz,?_⟩⟩
 ·show (w.heap.push _)[w.heap.size]?=_;simp
 ·rw [<- hcs,List.take_of_length_le (by rw [Array.length_toList,hsz]; exact ah _)]
theorem Hg (w:L):Own E (w.alloc (.cells #[] E.t)) w.heap.size (Y (J ⟨w.heap.size,0,D⟩) 0 0) ([]:List α):=by
 have h:=World.ownsRow_made (base:=w.heap.size) (e:=E.t) (size:=E.n) w #[] 0 (ah _) (by decide) (by simp);simpa [Own,flat] using h
def dN (W:L) (b:Nat) (cs:Array O) (t:U):Prop:=W.heap[b]?=J (.cells cs t (0,0))
theorem dN.cell {W:L} {b:Nat} {cs:Array O} {t:U} (h:dN W b cs t) (k:Nat):W.cell? ⟨b,k,D⟩=cs[k]?:=by
 unfold dN at h;simp [World.cell?,h]
theorem dN.fr {W:L} {b:Nat} {cs:Array O} {t:U} (h:dN W b cs t) (k:Nat):W.frozen? ⟨b,k,D⟩=Z:=by
 unfold dN at h;simp [World.frozen?,h]
theorem dN.cs2 {W:L} {b:Nat} {t:U} {a0 a1:O} (h:dN W b #[a0,a1] t):W.cell? ⟨b,0,D⟩=J a0/\W.cell? ⟨b,1,D⟩=J a1:=⟨h.cell 0,h.cell 1⟩
theorem dN.cs3 {W:L} {b:Nat} {t:U} {a0 a1 a2:O} (h:dN W b #[a0,a1,a2] t):W.cell? ⟨b,0,D⟩=J a0/\W.cell? ⟨b,1,D⟩=J a1/\W.cell? ⟨b,2,D⟩=J a2:=⟨h.cell 0,h.cell 1,h.cell 2⟩
theorem dN.Ke {W:L} {b:Nat} {t:U} {a0 a1 a2 a3:O} (h:dN W b #[a0,a1,a2,a3] t):W.cell? ⟨b,0,D⟩=J a0/\W.cell? ⟨b,1,D⟩=J a1/\W.cell? ⟨b,2,D⟩=J a2/\W.cell? ⟨b,3,D⟩=J a3:=⟨h.cell 0,h.cell 1,h.cell 2,h.cell 3⟩
theorem dN.cs5 {W:L} {b:Nat} {t:U} {a0 a1 a2 a3 a4:O} (h:dN W b #[a0,a1,a2,a3,a4] t):W.cell? ⟨b,0,D⟩=J a0/\W.cell? ⟨b,1,D⟩=J a1/\W.cell? ⟨b,2,D⟩=J a2/\W.cell? ⟨b,3,D⟩=J a3/\W.cell? ⟨b,4,D⟩=J a4:=⟨h.cell 0,h.cell 1,h.cell 2,h.cell 3,h.cell 4⟩
theorem dN.fB {W:L} {b:Nat} {t:U} {a0 a1 a2 a3 a4 a5:O} (h:dN W b #[a0,a1,a2,a3,a4,a5] t):W.cell? ⟨b,0,D⟩=J a0/\W.cell? ⟨b,1,D⟩=J a1/\W.cell? ⟨b,2,D⟩=J a2/\W.cell? ⟨b,3,D⟩=J a3/\W.cell? ⟨b,4,D⟩=J a4/\W.cell? ⟨b,5,D⟩=J a5:=⟨h.cell 0,h.cell 1,h.cell 2,h.cell 3,h.cell 4,h.cell 5⟩
theorem dN.oI {W:L} {b:Nat} {t:U} {a0 a1 a2 a3 a4 a5 a6:O} (h:dN W b #[a0,a1,a2,a3,a4,a5,a6] t):W.cell? ⟨b,0,D⟩=J a0/\W.cell? ⟨b,1,D⟩=J a1/\W.cell? ⟨b,2,D⟩=J a2/\W.cell? ⟨b,3,D⟩=J a3/\W.cell? ⟨b,4,D⟩=J a4/\W.cell? ⟨b,5,D⟩=J a5/\W.cell? ⟨b,6,D⟩=J a6:=⟨h.cell 0,h.cell 1,h.cell 2,h.cell 3,h.cell 4,h.cell 5,h.cell 6⟩
theorem dN.fs2 {W:L} {b:Nat} {cs:Array O} {t:U} (h:dN W b cs t):W.frozen? ⟨b,0,D⟩=Z/\W.frozen? ⟨b,1,D⟩=Z:=⟨h.fr 0,h.fr 1⟩
theorem dN.fs4 {W:L} {b:Nat} {cs:Array O} {t:U} (h:dN W b cs t):W.frozen? ⟨b,0,D⟩=Z/\W.frozen? ⟨b,1,D⟩=Z/\W.frozen? ⟨b,2,D⟩=Z/\W.frozen? ⟨b,3,D⟩=Z:=⟨h.fr 0,h.fr 1,h.fr 2,h.fr 3⟩
theorem dN.kJ {W:L} {b:Nat} {cs:Array O} {t:U} (h:dN W b cs t):W.frozen? ⟨b,0,D⟩=Z/\W.frozen? ⟨b,1,D⟩=Z/\W.frozen? ⟨b,2,D⟩=Z/\W.frozen? ⟨b,3,D⟩=Z/\W.frozen? ⟨b,4,D⟩=Z/\W.frozen? ⟨b,5,D⟩=Z:=⟨h.fr 0,h.fr 1,h.fr 2,h.fr 3,h.fr 4,h.fr 5⟩
theorem dN.Z9 {W:L} {b:Nat} {cs:Array O} {t:U} (h:dN W b cs t):W.frozen? ⟨b,0,D⟩=Z/\W.frozen? ⟨b,1,D⟩=Z/\W.frozen? ⟨b,2,D⟩=Z/\W.frozen? ⟨b,3,D⟩=Z/\W.frozen? ⟨b,4,D⟩=Z/\W.frozen? ⟨b,5,D⟩=Z/\W.frozen? ⟨b,6,D⟩=Z:=⟨h.fr 0,h.fr 1,h.fr 2,h.fr 3,h.fr 4,h.fr 5,h.fr 6⟩
theorem dN.lt {W:L} {b:Nat} {cs:Array O} {t:U} (h:dN W b cs t):b<W.heap.size:=lt_of_heap h
theorem dN.on {W W':L} {b:Nat} {cs:Array O} {t:U} (h:dN W b cs t) (hb:Below W.heap.size W W'):dN W' b cs t:=by
 have hl:=h.lt;unfold dN at *;rw [hb.block _ hl]; exact h
theorem dN.more {W:L} {b:Nat} {cs:Array O} {t:U} (h:dN W b cs t) (o:Obj):dN (W.alloc o) b cs t:=h.on ((Below.refl _ _).alloc (ah _) _)
theorem dO (W:L) (cs:Array O) (t:U):dN (W.alloc (.cells cs t)) W.heap.size cs t:=by
 unfold dN;show (W.heap.push _)[W.heap.size]?=_;simp
theorem wpList_append_run {P:Program} {ops:Array Oper} {rest:List Oper} {o:Oper} {a:Act} {Q:Exit->Act->L->Prop} {w w':L} (hgd:o.guard=D) (s x:Operand) (t:U)
  (ho:o.op=.call { callee:=.builtin .append,args:=#[s,x],argTypes:=#[t,t] }) {v xv v':O} (hs:a.eval s=v) (hx:a.eval x=xv) (hr:(Builtin.append_ #[t,t] o.type #[v,xv]).run P w=.ok v' w')
  (h:wpList P ops Q rest (a.put o.dst v') w'):wpList P ops Q (o::rest) a w:=by
 refine wpList_plain hgd fun K hK=>?_;unfold Oper.wp execOp;simp only [ho,resolve,invoke,builtin,Sem.run_bind,Sem.run_pure,Result.andThen_ok,List.map_toArray,List.map_cons,List.map_nil,hs,hx,hr];exact hK _ _ h
def jr (k:Nat):Code->Option Code
 | .block id c=>if id=k then J (.block id c) else jr k c
 | .seq a b=>match jr k a with
  | some c=>J c
  | none=>jr k b
 | .cond _ a b=>match jr k a with
  | some c=>J c
  | none=>jr k b
 | .loop c=>jr k c
 | .scope c=>jr k c
 | _=>D
def eP (k:Nat):Code->Option Code
 | .region id ops d=>if id=k then J (.region id ops d) else D
 | .seq a b=>match eP k a with
  | some c=>J c
  | none=>eP k b
 | .cond _ a b=>match eP k a with
  | some c=>J c
  | none=>eP k b
 | .block _ c=>eP k c
 | .loop c=>eP k c
 | .scope c=>eP k c
 | _=>D
end Go.Proofs.YtkcfgbddlpomgaaGreat.Rw
