/-
  Holds of package pre. Conditions as told.
-/
import Derived.Lib.Strings
import Derived.Test.YtmklifheakemeaaOQ008
set_option maxRecDepth 100000
set_option maxHeartbeats 64000000
open _root_.Array renaming length_toList->K
open _root_.Go renaming World->X,Calls->Z,Value->ah
open Go.Ending renaming returned->D
open Go.Lib renaming hid->Q,size_eq->aj
open Go.Obj renaming cells->J
open Go.Proofs.Try renaming ntmps94->L,func94->O,prog->U
open Go.Value renaming bool->V,string->Y
namespace Go.Proofs.Ytmklifheakemeaa
namespace Pr
open Go.RowKit Go.Sort Pu Rw Va
theorem yK (s p:ByteArray) (w:X):Z U 100 #[Y s,Y p] w fun e w'=>e=D (V (pfx p s))/\w'=w:=by
 show Z U _ _ _ fun e w'=>e=D (V (Lib.hasPrefix s.data.toList p.data.toList))/\w'=w;rw [<- Lib.hasPrefix_of_take,<- aj,<- aj];go_enter Try.func100,Try.ntmps100;go_wp2
 ·rename_i h
  go_ret;refine⟨?_,rfl⟩;show D (V ((s.extract 0 p.size).toList == p.toList))=_;rw [Lib.extract_toList,Lib.toList_data];simp [h]
 ·rename_i h
  go_ret;refine⟨?_,rfl⟩;show D (V false)=_;simp [h]
theorem lY (s p:ByteArray) (w:X):Z U 99 #[Y s,Y p] w fun e w'=>e=D (V (pfx p s))/\w'=w:=by
 go_enter Try.func99,Try.ntmps99;go_wp2_with fail;refine (yK s p w).mono ?_;rintro e w' ⟨rfl,rfl⟩;go_wp2;go_ret;exact⟨rfl,rfl⟩
theorem Fa (s u:ByteArray) (h:s.size=u.size):pfx u s=(s.data.toList == u.data.toList):=by
 have hl:u.data.toList.length=s.data.toList.length:=by rw [K,K]; exact h.symm
 rw [Bool.eq_iff_iff,beq_iff_eq,dZ];exact⟨fun h1=>(h1.eq_of_length hl).symm,fun h1=>by rw [h1]; exact List.prefix_refl _⟩
theorem Aq (s u:ByteArray) (h:¬ s.size=u.size):(s.data.toList == u.data.toList)=false:=by
 rw [beq_eq_false_iff_ne];intro e;have:=congrArg List.length e;rw [K,K] at this;exact h this
theorem hB (w:X) (nm:ByteArray) (k lo hi:Int) (u:ByteArray) (t:Bool) (n:Int) (s:ByteArray):Below w.heap.size w ((w.alloc (J #[Y nm,.int .i64 k,.int .i64 lo,.int .i64 hi,Y u] 56)).alloc (J #[V t,.int .i64 n,Y s] 134)) :=
 ((Below.refl w.heap.size w).alloc (Nat.le_refl _) _).alloc (by simp) _
theorem Au (nm:ByteArray) (lo hi:Int) (t:Bool) (n:Int) (s:ByteArray) (w:X):Z U 94 #[cv (r5 (nm,.rg lo hi)),vl t n s] w fun e w'=>e=D (V (dJ (.rg lo hi) (t,n,s)))/\Below w.heap.size w w':=by
 simp only [r5,kN,ko,kr,kT];have R:=Q (show dJ (.rg lo hi) (t,n,s)=(!t && (decide (lo<=n) && decide (n<=hi))) from rfl);have B:=Q (hB w nm 1 lo hi ⟨#[]⟩ t n s);generalize dJ (.rg lo hi) (t,n,s)=r at *;by_cases h1:lo<=n <;> have H1:=Q h1 <;> cases t <;> go_enter O,L <;> go_wp2 <;> go_ret <;> exact⟨fD (by rw [R.out]; have h:=H1.out; simp [h] <;> omega),B.out⟩
theorem Aw (nm u:ByteArray) (t:Bool) (n:Int) (s:ByteArray) (w:X):Z U 94 #[cv (r5 (nm,.tx u)),vl t n s] w fun e w'=>e=D (V (dJ (.tx u) (t,n,s)))/\Below w.heap.size w w':=by
 simp only [r5,kN,ko,kr,kT];have R:=Q (show dJ (.tx u) (t,n,s)=(t && (s.data.toList == u.data.toList)) from rfl);have B:=Q (hB w nm 2 0 0 u t n s);generalize dJ (.tx u) (t,n,s)=r at *;by_cases h1:s.size=u.size
 ·have e1:(((s.size:Nat):Int) != ((u.size:Nat):Int))=false:=by simp [h1]
  have E:=Q (Fa s u h1);clear h1;cases t
  ·go_enter O,L;go_wp2;go_ret;exact⟨fD (by rw [R.out]; simp),B.out⟩
  ·go_enter O,L;go_wp2_with fail;refine (lY s u _).mono ?_;rintro e w' ⟨rfl,rfl⟩;go_wp2;go_ret;exact⟨fD (by rw [R.out,E.out]; simp),B.out⟩
 ·have e1:(((s.size:Nat):Int) != ((u.size:Nat):Int))=true:=by simp; omega
  have E:=Q (Aq s u h1);clear h1;go_enter O,L;go_wp2;go_ret;exact⟨fD (by rw [R.out,E.out]; simp),B.out⟩
theorem Ay (nm u:ByteArray) (t:Bool) (n:Int) (s:ByteArray) (w:X):Z U 94 #[cv (r5 (nm,.pr u)),vl t n s] w fun e w'=>e=D (V (dJ (.pr u) (t,n,s)))/\Below w.heap.size w w':=by
 simp only [r5,kN,ko,kr,kT];have R:=Q (show dJ (.pr u) (t,n,s)=(t && pfx u s) from rfl);have B:=Q (hB w nm 3 0 0 u t n s);generalize dJ (.pr u) (t,n,s)=r at *;cases t
 ·go_enter O,L;go_wp2;go_ret;exact⟨fD (by rw [R.out]; simp),B.out⟩
 ·go_enter O,L;go_wp2_with fail;refine (lY s u _).mono ?_;rintro e w' ⟨rfl,rfl⟩;go_wp2;go_ret;exact⟨fD (by rw [R.out]; simp),B.out⟩
theorem yL (c:Cn) (t:Bool) (n:Int) (s:ByteArray) (w:X):Z U 94 #[cv (r5 c),vl t n s] w fun e w'=>e=D (V (dJ c.2 (t,n,s)))/\Below w.heap.size w w':=by
 obtain⟨nm,k⟩:=c;cases k with
 | rg lo hi=>exact Au nm lo hi t n s w
 | tx u=>exact Aw nm u t n s w
 | pr u=>exact Ay nm u t n s w
end Pr
namespace Bk
open Go.RowKit Go.Sort Rw Ytmklifheakemeaa.Nm Pr
theorem Az (l:List Id) (x:Id) (k:Nat) (hall:∀ (j:Nat) (y:Id),j<k->l[j]?=some y->dP y x=true) (hend:k=l.length\/∃ y,l[k]?=some y/\dP y x=false):iL l x=k:=by
 unfold iL
 induction l generalizing k with
 | nil =>
  rcases hend with h|⟨y,h,_⟩
  ·rw [h]; rfl
  ·simp at h
 | cons a l ih =>
  cases k with
  | zero =>
   rcases hend with h|⟨y,h,h2⟩
   ·simp at h
   ·obtain rfl:a=y:=by simpa using h
    rw [List.takeWhile_cons,h2]
    rfl
  | succ k =>
   have h0:=hall 0 a (by omega) rfl;rw [List.takeWhile_cons,h0];simp only [if_true,List.length_cons];rw [ih k (fun j y hj hy=>hall (j+1) y (by omega) (by simpa using hy)) (by
    rcases hend with h|⟨y,h,h2⟩
    ·exact Or.inl (by simpa using h)
    ·exact Or.inr ⟨y,by simpa using h,h2⟩)]
def fF {α:Type} (l:List α) (k:Nat) (x:α):List α:=l.take k++[x]++l.drop k
def kH (b:Br) (a:Ad):Br×Bool:=if a.id∈b.seen then (b,false) else ({ b with seen:=fF b.seen (iL b.seen a.id) a.id,fB:=fF b.fB (iL (b.fB.map Ad.id) a.id) a },true)
abbrev jc (W:X) (b:Nat) (a0 a1 a2 a3 a4 a5:ah):X:=(((((W.setCell ⟨b,0,none⟩ a0).setCell ⟨b,1,none⟩ a1).setCell ⟨b,2,none⟩ a2).setCell ⟨b,3,none⟩ a3).setCell ⟨b,4,none⟩ a4).setCell ⟨b,5,none⟩ a5
theorem dY {W:X} {b:Nat} {t:TypeId} {z0 z1 z2 z3 z4 z5:ah} (h:dz W b #[z0,z1,z2,z3,z4,z5] t) (a0 a1 a2 a3 a4 a5:ah):dz (jc W b a0 a1 a2 a3 a4 a5) b #[a0,a1,a2,a3,a4,a5] t:=by
 have h2:=dX (k:=5) (dX (k:=4) (dX (k:=3) (dX (k:=2) (dX (k:=1) (dX (k:=0) h a0) a1) a2) a3) a4) a5;simp only [List.setIfInBounds_toArray,List.set_cons_zero,List.set_cons_succ] at h2;exact h2
theorem dM {w W:X} {B b:Nat} (h:Below B w W) (hb:B<=b) (a0 a1 a2 a3 a4 a5:ah):Below B w (jc W b a0 a1 a2 a3 a4 a5) :=
 (((((h.setCell hb _).setCell hb _).setCell hb _).setCell hb _).setCell hb _).setCell hb _
theorem yM {α:Type} {E:Ek α} {W:X} {B:Nat} {v:ah} {l:List α} (h:Own E W B v l) (b:Nat) (hb:b<B) (a0 a1 a2 a3 a4 a5:ah):Own E (jc W b a0 a1 a2 a3 a4 a5) B v l :=
 dQ (dQ (dQ (dQ (dQ (dQ h b 0 a0 hb) b 1 a1 hb) b 2 a2 hb) b 3 a3 hb) b 4 a4 hb) b 5 a5 hb
theorem lC (w:X) (c d e:Array ah) (r s t:TypeId):Below w.heap.size w (((w.alloc (J c r)).alloc (J d s)).alloc (J e t))/\dz (((w.alloc (J c r)).alloc (J d s)).alloc (J e t)) w.heap.size c r/\dz (((w.alloc (J c r)).alloc (J d s)).alloc (J e t)) (w.heap.size+1) d s/\dz (((w.alloc (J c r)).alloc (J d s)).alloc (J e t)) (w.heap.size+1+1) e t:=by
 refine⟨(((Below.refl _ _).alloc (Nat.le_refl _) _).alloc (by simp) _).alloc (by simp; omega) _,((dI w c r).more _).more _,?_,?_⟩
 ·have h:=(dI (w.alloc (J c r)) d s).more (J e t);simpa using h
 ·have h:=dI ((w.alloc (J c r)).alloc (J d s)) e t;simpa using h
theorem kI (l:List Id) (x:Id):iL l x<=l.length:=by
 unfold iL;exact (List.takeWhile_sublist _).length_le
end Bk
end Go.Proofs.Ytmklifheakemeaa
