/-
  clear of the end of . Conditions as told.
-/
import Derived.Test.YtkcfgbddlpomgaaGreatOQ023
import Derived.Laws.IdiomCopy
set_option maxRecDepth 100000
set_option maxHeartbeats 64000000
open Go.Builtin renaming zeroCells->D,clear_->O
open _root_.List renaming take_take->J,mem_map->Q,take->U
namespace Go.Proofs.YtkcfgbddlpomgaaGreat.Av
open Go.RowKit Go.Sort Rw YtkcfgbddlpomgaaGreat.Nm Pr Bk
theorem wU {g:Nat} {t:TypeId}:∀ (vs:List Value) (o:Nat) (w:World) (cur:Array Value),dN w g cur t->∃ cur',dN (w.setCells g o vs) g cur' t/\cur'.size=cur.size/\cur'.toList.take o=cur.toList.take o
 | [],o,w,cur,h=>⟨cur,h,rfl,rfl⟩
 | v::r,o,w,cur,h=>by
  obtain⟨cur',h1,h2,h3⟩:=wU r (o+1) (w.setCell ⟨g,o,none⟩ v) _ (dR (k:=o) h v);refine⟨cur',h1,by rw [h2]; simp,?_⟩;have h4:=congrArg (U o) h3;rw [J,J,Nat.min_eq_left (by omega)] at h4;rw [h4,Array.toList_setIfInBounds,List.take_set_of_le (Nat.le_refl _)]
theorem wV (g:Nat):∀ (vs:List Value) (o:Nat) (w:World),But g w (w.setCells g o vs)
 | [],_,_w=>⟨fun _ _ _=>rfl,Nat.le_refl _⟩
 | v::r,o,w=>(dY w g o v).trans (wV g r (o+1) _)
theorem below_setCells {B g:Nat} (hB:B<=g):∀ (vs:List Value) (o:Nat) (W w:World),Below B W w->Below B W (w.setCells g o vs)
 | [],_,_,_,h=>h
 | v::r,o,W,_w,h=>below_setCells hB r (o+1) W _ (h.setCell (p:=⟨g,o,none⟩) hB v)
theorem Qw {α:Type} {E:Ek α} (K:E.Ok) (hz:∀ v∈E.z.cells.toList,v.oneCell'=true) {W:World} {B g n cap i:Nat} {L:List α} (h:Own E W B (.slice (some ⟨g,0,none⟩) n cap) L) (hi:i<n) (ty:TypeId) :
  ∃ W',(O #[E.ts] ty #[.slice (some ⟨g,i * E.n,none⟩) (n-i) (cap-i)]).run Tryz.prog W=.ok (.tuple #[]) W'/\Own E W' B (.slice (some ⟨g,0,none⟩) i cap) (L.take i)/\But g W W'/\(∀ B' W0,B'<=g->Below B' W0 W->Below B' W0 W'):=by
 have hln:=gJ h;rcases gQ h with⟨h1,_⟩|⟨g',cap',cur,h1,h2,h3,h4,h5,h6,h7⟩
 ·cases h1
 ·obtain⟨rfl,_,rfl⟩:g=g'/\n=L.length/\cap=cap':=by simpa using h1
  have hzs:(D E.z.cells (n-i)).toList.length=(n-i) * E.n:=by simp [D,K.zs]
  have h10:i * E.n+(n-i) * E.n=n * E.n:=by rw [<- Nat.add_mul,Nat.add_sub_cancel' (Nat.le_of_lt hi)]
  have h11:n * E.n<=cap * E.n:=Nat.mul_le_mul_right _ (by omega);have hone:∀ v∈(D E.z.cells (n-i)).toList,v.oneCell'=true:=by
   intro v hv;simp only [D,Array.toList_map,Q] at hv;obtain⟨j,_,rfl⟩:=hv;have hp:=K.pos;have hlt:j % E.z.cells.size<E.z.cells.size:=Nat.mod_lt _ (by rw [K.zs]; exact hp);refine hz _ ?_;rw [getElem!_pos E.z.cells (j % E.z.cells.size) hlt,Array.mem_toList_iff];exact Array.getElem_mem hlt
  have hst:=run_storeCells_cells (P:=Tryz.prog) g (i * E.n) (D E.z.cells (n-i)).toList 0 W (by
   intro j hj;rw [hzs] at hj;rw [Nat.add_zero,h3.cell];have:i * E.n+j<cur.size:=by rw [h6]; omega
   simp [this]) (fun j _=>h3.fr _) hone
  rw [Nat.add_zero] at hst;obtain⟨ii,i1,i2,i3,i4⟩:=K.info;obtain⟨cur',c1,c2,c3⟩:=wU (D E.z.cells (n-i)).toList (i * E.n) W cur h3;refine⟨W.setCells g (i * E.n) (D E.z.cells (n-i)).toList,?_,?_,wV _ _ _ _,fun B' W0 hB hb=>below_setCells hB _ _ _ _ hb⟩
  ·obtain⟨m,hm⟩:∃ m,n-i=m+1:=⟨n-i-1,by omega⟩;rw [hm] at hst ⊢;have hv:∀ w,(zeroValue E.t).run Tryz.prog w=.ok E.z w:=fun w=>by simp [go_sem,zeroValue,typeInfo,i1,i2]
   simp [O,run_underlying K.hu,hv,hst]
  ·refine qW K (by rw [List.length_take]; omega) h2 c1 (by omega) h5 (by rw [c2]; exact h6) ?_;rw [c3];have h8:=congrArg (U (i * E.n)) h7;rw [J,qX K,Nat.min_eq_left (by rw [<- hln] at hi; exact Nat.mul_le_mul_right _ (Nat.le_of_lt hi))] at h8;exact h8
theorem Ee {α:Type} {key:α->eT} {l:List α} {x:eT} (h:fK (l.map key) x=-1):∀ (j:Nat) (y:α),l[j]?=some y->key y≠x:=by
 intro j y hj hy;have h1:=Ib (l.map key) x;rw [h] at h1;have:x∈l.map key:=Q.2 ⟨y,List.mem_of_getElem? hj,hy⟩;simp [this] at h1
theorem yI:∀ {l:List eT} {x:eT} {k:Nat},fK l x=k->l[k]?=some x/\∀ (j:Nat) (y:eT),j<k->l[j]?=some y->y≠x
 | [],x,k,h=>by simp [fK] at h <;> omega
 | a::l,x,k,h=>by
  unfold fK at h;by_cases hax:a=x
  ·rw [if_pos hax] at h;obtain rfl:k=0:=by omega
   exact⟨by simpa using hax,fun j y hj=>by omega⟩
  ·rw [if_neg hax] at h;by_cases h2:fK l x=-1
   ·rw [if_pos h2] at h; omega
   ·rw [if_neg h2] at h;cases k with
    | zero=>have:=qZ l x; omega
    | succ k =>
     obtain⟨h3,h4⟩:=yI (l:=l) (x:=x) (k:=k) (by omega);refine⟨by simpa using h3,fun j y hj hy=>?_⟩;cases j with
     | zero =>
      obtain rfl:a=y:=by simpa using hy
      exact hax
     | succ j=>exact h4 j y (by omega) (by simpa using hy)
abbrev aio (x:iH):eT:=(x.1,x.2.1)
abbrev yU (c d:Int) (x:iH):Bool:=decide (aio x≠(c,d))
end Go.Proofs.YtkcfgbddlpomgaaGreat.Av
