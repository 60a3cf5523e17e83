/-
  The order of IDs: Le. Conditions as told.
-/
import Derived.Test.YtkcfgbddlpomgaaGreatLQ017
import Derived.Test.YtkcfgbddlpomgaaGreatLQ009
set_option maxRecDepth 100000
set_option maxHeartbeats 64000000
open Go.IntKind renaming i64->K
open Go.Value renaming int->J,slice->Z
open _root_.List renaming getElem?_eq_some_iff->D,mem_iff_getElem?->L,mem_of_getElem?->O,getElem?_map->Q,mem_map->U,length_map->V
namespace Go.Proofs.YtkcfgbddlpomgaaGreat.Av
open Go.RowKit Go.Sort Rw YtkcfgbddlpomgaaGreat.Nm Pr Bk
theorem wC (x y:eG) (w:World):Calls Tryz.prog 80 #[lV x,lV y] w fun e w'=>e=.returned (.bool (dZ x y))/\Below w.heap.size w w':=by
 have C:=yV x y;have R:=Lib.hid (show decide (lF x y<0)=dZ x y from by
  have h:=rM x y;cases hl:dZ x y
  ·rw [hl] at h; simp at h; simpa using h
  ·rw [hl] at h; simp at h; simpa using h)
 obtain⟨a,b⟩:=x;obtain⟨c,d⟩:=y;obtain⟨h0,X,Y⟩:=gQ w #[J K a,J K b] #[J K c,J K d] 38 38;obtain⟨x0,x1⟩:=X.cs2;obtain⟨y0,y1⟩:=Y.cs2;have B:=Lib.hid h0;generalize lF (a,b) (c,d)=r at *;generalize dZ (a,b) (c,d)=s at *;clear X Y h0;go_enter Tryz.func80,Tryz.ntmps80;go_wp2_with fail;have C:=C ((w.alloc (.cells #[J K a,J K b] 38)).alloc (.cells #[J K c,J K d] 38));refine C.mono ?_;rintro e w1 ⟨rfl,hb⟩;go_wp2;go_ret;exact⟨by have h:=R.out; subst h; rfl,B.out.trans (hb.mono B.out.size)⟩
theorem NP (x y:jC) (w:World):Calls Tryz.prog 71 #[lU x,lU y] w fun e w'=>e=.returned (J K (lF (x.1,x.2.1) (y.1,y.2.1)))/\Below w.heap.size w w':=by
 obtain⟨a,b,⟨s1,s2,s3⟩,p⟩:=x;obtain⟨c,d,⟨t1,t2,t3⟩,q⟩:=y;have C:=yV (a,b) (c,d);obtain⟨h0,X,Y⟩:=gQ w #[J K a,J K b,Z s1 s2 s3,J K p] #[J K c,J K d,Z t1 t2 t3,J K q] 53 53;have x1:=X.cell 1;have x0:=X.cell 0;have y1:=Y.cell 1;have y0:=Y.cell 0;simp only [List.getElem?_toArray,List.getElem?_cons_zero,List.getElem?_cons_succ] at x0 x1 y0 y1;have B:=Lib.hid h0;generalize lF (a,b) (c,d)=r at *;clear X Y h0;go_enter Tryz.func71,Tryz.ntmps71;go_wp2_with fail;have C:=C ((w.alloc (.cells #[J K a,J K b,Z s1 s2 s3,J K p] 53)).alloc (.cells #[J K c,J K d,Z t1 t2 t3,J K q] 53));refine C.mono ?_;rintro e w1 ⟨rfl,hb⟩;go_wp2;go_ret;exact⟨rfl,B.out.trans (hb.mono B.out.size)⟩
def j6 {α:Type} (key:α->eG) (l:List α):Prop:=l.Pairwise fun a b=>dZ (key a) (key b)=true
def gu {α:Type} (key:α->eG) (l:List α) (x:eG):Nat:=(l.takeWhile fun a=>dZ (key a) x).length
def lG {α:Type} (key:α->eG) (l:List α) (x:eG):Bool:=match l[gu key l x]? with
 | some y=>decide (key y=x)
 | none=>false
theorem iT {α:Type} (key:α->eG) (l:List α) (x:eG):gu key l x=fF (l.map key) x:=by
 unfold gu fF;rw [List.takeWhile_map,V]
 rfl
theorem Cg {α:Type} (key:α->eG) (l:List α) (x:eG) (k:Nat) (hall:∀ (j:Nat) (y:α),j<k->l[j]?=some y->dZ (key y) x=true) (hend:k=l.length\/∃ y,l[k]?=some y/\dZ (key y) x=false):gu key l x=k:=by
 rw [iT];refine nU _ _ k (fun j y hj h=>?_) ?_
 ·rw [Q] at h;cases hy:l[j]? with
  | none=>rw [hy] at h; cases h
  | some z=>rw [hy] at h; rw [<- Option.some.inj h]; exact hall j z hj hy
 ·rcases hend with h|⟨y,h1,h2⟩
  ·exact Or.inl (by rw [V]; exact h)
  ·exact Or.inr ⟨key y,by rw [Q,h1]; rfl,h2⟩
theorem mM {α:Type} {key:α->eG} {l:List α} (h:j6 key l) {i j:Nat} {x y:α} (hij:i<j) (hx:l[i]?=some x) (hy:l[j]?=some y):dZ (key x) (key y)=true:=by
 obtain⟨h1,rfl⟩:=D.1 hx;obtain⟨h2,rfl⟩:=D.1 hy;exact List.pairwise_iff_getElem.1 h i j h1 h2 hij
theorem Ch (x y:eG):decide (lF x y<0)=dZ x y:=by
 have h:=rM x y;cases hl:dZ x y
 ·rw [hl] at h; simp at h; simpa using h
 ·rw [hl] at h; simp at h; simpa using h
theorem NQ {α:Type} {key:α->eG} {l:List α} (h:j6 key l) (x:eG):lG key l x=decide (x∈l.map key):=by
 unfold lG;have hp:gu key l x<=l.length:=by rw [iT]; exact Nat.le_trans (kY _ _) (by simp)
 have hlo:∀ (j:Nat) (y:α),j<gu key l x->l[j]?=some y->dZ (key y) x=true:=by
  intro j y hj hy;have ht:(l.takeWhile fun a=>dZ (key a) x)[j]?=some y:=by
   have:=List.takeWhile_prefix (fun a=>dZ (key a) x) (l:=l);obtain⟨t,ht⟩:=this;rw [<- ht,List.getElem?_append_left hj] at hy;exact hy
  exact List.all_eq_true.1 List.all_takeWhile y (O ht)
 have hhi:∀ (y:α),l[gu key l x]?=some y->dZ (key y) x=false:=by
  intro y hy;unfold gu at hy;cases hq:dZ (key y) x with
  | false=>rfl
  | true =>
   exfalso;have:∀ (m:List α),m[(m.takeWhile fun a=>dZ (key a) x).length]?=some y->False:=by
    intro m
    induction m with
    | nil=>intro h; simp at h
    | cons a m ih =>
     intro h;by_cases ha:dZ (key a) x=true
     ·exact ih (by simpa [List.takeWhile_cons,ha] using h)
     ·simp [ha] at h;subst h;exact ha hq
   exact this l hy
 cases hy:l[gu key l x]? with
 | none =>
  symm
  rw [decide_eq_false_iff_not];intro hm;obtain⟨z,hz,hzx⟩:=U.1 hm;obtain⟨j,hj⟩:=L.1 hz;have hjl:=(D.1 hj).1;have hpl:l.length<=gu key l x:=by
   rcases Nat.lt_or_ge (gu key l x) l.length with h0|h0
   ·rw [List.getElem?_eq_getElem h0] at hy; cases hy
   ·exact h0
  have:=hlo j z (by omega) hj;rw [hzx,j5] at this;cases this
 | some y =>
  simp only;by_cases hk:key y=x
  ·rw [decide_eq_true hk]
   symm
   rw [decide_eq_true_eq];exact U.2 ⟨y,O hy,hk⟩
  ·rw [decide_eq_false hk]
   symm
   rw [decide_eq_false_iff_not];intro hm;obtain⟨z,hz,hzx⟩:=U.1 hm;obtain⟨j,hj⟩:=L.1 hz;rcases Nat.lt_trichotomy j (gu key l x) with h1|h1|h1
   ·have:=hlo j z h1 hj;rw [hzx,j5] at this;cases this
   ·subst h1;rw [hy] at hj;rw [Option.some.inj hj] at hk;exact hk hzx
   ·have h3:=mM h h1 hy hj;have h4:=hhi y hy;rw [hzx] at h3;rw [h3] at h4;cases h4
end Go.Proofs.YtkcfgbddlpomgaaGreat.Av
