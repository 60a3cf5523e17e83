/-
  Name of package tupl. Conditions as told.
-/
import Derived.Test.YtghlpefopidlaaaGreatBQ008
import Derived.Test.YtghlpefopidlaaaGreatBQ003
set_option maxRecDepth 100000
set_option maxHeartbeats 64000000
open _root_.Bool renaming false->O,true->U
open Go.Lib renaming hid->K
open Go.Proofs.Tryz renaming ntmps130->D,func130->J,prog->Q
namespace Go.Proofs.YtghlpefopidlaaaGreat
namespace Pr
open Go.RowKit Go.Sort Pu Rw Va
theorem I6 (s:ByteArray) (w:World) (hs:s.size<=maxLen) :
  Calls Q 166 #[.string s] w fun e w'=>e=.returned (.bool (kR s))/\w=w':=by
 unfold maxLen at hs;go_enter Tryz.func166,Tryz.ntmps166;go_wp2
 go_loop [6] (fun i=>∃ k:Nat,k<=s.size/\i=.int .i64 k/\∀ (j:Nat) (hj:j<s.size),j<k->uG s[j]=U) (fun i=>s.size-(intOf i).toNat)
 case atStart=>exact⟨0,Nat.zero_le _,rfl,fun j hj h=>by omega⟩
 case round =>
  obtain⟨k,hk,rfl,hall⟩:=hrel;have AL:=K hall;clear hall;by_cases hlt:k<s.size
  ·have hcl:(s[k].toNat:Int)<256:=by have:=s[k].toNat_lt; omega
   by_cases h1:97<=s[k].toNat
   ·by_cases h2:s[k].toNat<=122
    ·have L:=K (show uG s[k]=U by simp [uG,h1,h2]);have d1:decide ((s[k].toNat:Int)<97)=O:=by simp; omega
     have d2:decide ((122:Int)<(s[k].toNat:Int))=O:=by simp; omega
     clear h1 h2;go_wp2
     go_round
     case rel=>exact⟨k+1,by omega,by go_num,fun j hj h=>by
      rcases Nat.lt_or_ge j k with h3|h3
      ·exact AL.out j hj h3
      ·obtain rfl:j=k:=by omega
       exact L.out⟩
     case measure=>simp [intOf]; omega
    ·have R:=K (show kR s=O from yu s k hlt (by simp [uG,h2]));have d1:decide ((s[k].toNat:Int)<97)=O:=by simp; omega
     have d2:decide ((122:Int)<(s[k].toNat:Int))=U:=by simp; omega
     clear h1 h2;go_wp2;go_ret;exact⟨eX R.out.symm,rfl⟩
   ·have R:=K (show kR s=O from yu s k hlt (by simp [uG,h1]));have d1:decide ((s[k].toNat:Int)<97)=U:=by simp; omega
    clear h1;go_wp2;go_ret;exact⟨eX R.out.symm,rfl⟩
  ·obtain rfl:k=s.size:=by omega
   have R:=K (Im s (fun j hj=>AL.out j hj hj));by_cases h1:1<=s.size
   ·have R2:=K (show kR s=decide ((s.size:Int)<=12) by rw [R.out]; simp [h1]; omega);go_wp2;go_ret;exact⟨eX R2.out.symm,rfl⟩
   ·have R2:=K (show kR s=O by rw [R.out]; simp [h1]);have d1:decide ((1:Int)<=(s.size:Int))=O:=by simp; omega
    go_wp2;go_ret;exact⟨eX R2.out.symm,rfl⟩
theorem oB (w:World) (nm:ByteArray) (k lo hi:Int) (u:ByteArray):Below w.heap.size w (w.alloc (.cells #[.string nm,.int .i64 k,.int .i64 lo,.int .i64 hi,.string u] 91)) :=
 (Below.refl w.heap.size w).alloc (Nat.le_refl _) _
theorem PY (c:Cn) (w:World) (hs:c.1.size<=maxLen):Calls Q 130 #[cv (r5 c)] w fun e w'=>e=.returned (.bool (qz c))/\Below w.heap.size w w':=by
 obtain⟨nm,k⟩:=c;have NA:=K (I6 nm (w.alloc (.cells #[.string nm,.int .i64 (kN k),.int .i64 (mE k),.int .i64 (mF k),.string (kT k)] 91)) hs);have B:=K (oB w nm (kN k) (mE k) (mF k) (kT k));have R:=K (show qz (nm,k)=(kR nm && fJ k) from rfl);clear hs;generalize qz (nm,k)=r at *;obtain⟨q,hq⟩:∃ q,kR nm=q:=⟨_,rfl⟩;rw [hq] at NA R;clear hq;cases k with
 | rg lo hi =>
  simp only [r5,kN,mE,mF,kT] at *;cases q
  ·go_enter J,D;go_wp2_with fail;refine NA.out.mono ?_;rintro e w' ⟨rfl,rfl⟩;go_wp2;go_ret;exact⟨eX (by rw [R.out]; simp),B.out⟩
  ·by_cases h1:lo<=hi <;> have H1:=K h1
   all_goals
    go_enter J,D;go_wp2_with fail;refine NA.out.mono ?_;rintro e w' ⟨rfl,rfl⟩;go_wp2;go_ret;exact⟨eX (by rw [R.out]; have h:=H1.out; simp [fJ,h] <;> omega),B.out⟩
 | tx u =>
  simp only [r5,kN,mE,mF,kT] at *;cases q
  ·go_enter J,D;go_wp2_with fail;refine NA.out.mono ?_;rintro e w' ⟨rfl,rfl⟩;go_wp2;go_ret;exact⟨eX (by rw [R.out]; simp),B.out⟩
  ·go_enter J,D;go_wp2_with fail;refine NA.out.mono ?_;rintro e w' ⟨rfl,rfl⟩;go_wp2;go_ret;exact⟨eX (by rw [R.out]; simp [fJ]; omega),B.out⟩
 | pr u =>
  simp only [r5,kN,mE,mF,kT] at *;cases q
  ·go_enter J,D;go_wp2_with fail;refine NA.out.mono ?_;rintro e w' ⟨rfl,rfl⟩;go_wp2;go_ret;exact⟨eX (by rw [R.out]; simp),B.out⟩
  ·by_cases h1:u.size<12
   ·have e1:decide ((12:Int)<=(u.size:Int))=O:=by simp; omega
    have e2:decide ((u.size:Int)<=12)=U:=by simp; omega
    have H1:=K h1;clear h1;go_enter J,D;go_wp2_with fail;refine NA.out.mono ?_;rintro e w' ⟨rfl,rfl⟩;go_wp2;go_ret;exact⟨eX (by rw [R.out]; have h:=H1.out; simp [fJ,h]),B.out⟩
   ·have e1:decide ((12:Int)<=(u.size:Int))=U:=by simp; omega
    have H1:=K h1;clear h1;go_enter J,D;go_wp2_with fail;refine NA.out.mono ?_;rintro e w' ⟨rfl,rfl⟩;go_wp2;go_ret;exact⟨eX (by rw [R.out]; have h:=H1.out; simp [fJ]; omega),B.out⟩
end Pr
namespace Bk
open Go.RowKit Go.Sort Rw YtghlpefopidlaaaGreat.Nm Pr
theorem Lj (l:List Id) (x:Id) (k:Nat) (hall:∀ (j:Nat) (y:Id),j<k->l[j]?=some y->dP y x=U) (hend:k=l.length\/∃ y,l[k]?=some y/\dP y x=O):gQ l x=k:=by
 unfold gQ
 induction l generalizing k with
 | nil =>
  rcases hend with h|⟨y,h,_⟩
  ·rw [h]; rfl
  ·simp at h
 | cons a l ih =>
  cases k with
  | zero =>
   rcases hend with h|⟨y,h,h2⟩
   ·simp at h
   ·obtain rfl:a=y:=by simpa using h
    rw [List.takeWhile_cons,h2]
    rfl
  | succ k =>
   have h0:=hall 0 a (by omega) rfl;rw [List.takeWhile_cons,h0];simp only [if_true,List.length_cons];rw [ih k (fun j y hj hy=>hall (j+1) y (by omega) (by simpa using hy)) (by
    rcases hend with h|⟨y,h,h2⟩
    ·exact Or.inl (by simpa using h)
    ·exact Or.inr ⟨y,by simpa using h,h2⟩)]
end Bk
end Go.Proofs.YtghlpefopidlaaaGreat
