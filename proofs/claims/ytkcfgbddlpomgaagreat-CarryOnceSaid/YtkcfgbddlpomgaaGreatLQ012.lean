/-
  Attributes of packag. Conditions as told.
-/
import Derived.Test.YtkcfgbddlpomgaaGreatLQ008
import Derived.Lib.Strings
set_option maxRecDepth 100000
set_option maxHeartbeats 64000000
open _root_.Array renaming length_toList->K
open _root_.Go renaming World->X,Value->Z,Calls->ah
open Go.Ending renaming returned->D
open Go.Lib renaming hid->V,size_eq->ak
open Go.Proofs.Tryz renaming ntmps45->L,prog->O,func45->Q
open Go.Value renaming string->J,bool->U,int->aj,slice->au
open _root_.Option renaming some->Y
namespace Go.Proofs.YtkcfgbddlpomgaaGreat
namespace At
open Go.RowKit Va
abbrev A4:=ByteArray×Bool×Int×ByteArray
abbrev av (x:A4):Z:=.agg #[J x.1,U x.2.1,aj .i64 x.2.2.1,J x.2.2.2]
def yM (x:A4):List Z:=[J x.1,U x.2.1,aj .i64 x.2.2.1,J x.2.2.2]
def kZ:List A4->List Z
 | []=>[]
 | x::r=>.string x.1::U x.2.1::aj .i64 x.2.2.1::J x.2.2.2::kZ r
theorem uH:∀ a b,kZ (a++b)=kZ a++kZ b
 | [],b=>rfl
 | x::r,b=>by simp [kZ,uH r b]
theorem Bd:∀ l,∀ u∈kZ l,u.oneCell'=true
 | [],u,h=>by cases h
 | x::r,u,h=>by
  simp only [kZ,List.mem_cons] at h;rcases h with rfl|rfl|rfl|rfl|h
  ·rfl
  ·rfl
  ·rfl
  ·rfl
  ·exact Bd r u h
theorem Fy:∀ (l:List A4) (m:Nat) (x:A4),l[m]?=Y x->(kZ l)[m * 4]?=Y (J x.1)/\(kZ l)[m * 4+1]?=Y (U x.2.1)/\(kZ l)[m * 4+2]?=Y (aj .i64 x.2.2.1)/\(kZ l)[m * 4+3]?=Y (J x.2.2.2)
 | [],m,x,h=>by simp at h
 | y::r,0,x,h=>by
  simp at h;subst h;exact⟨rfl,rfl,rfl,rfl⟩
 | y::r,m+1,x,h=>by
  have h2:=Fy r m x (by simpa using h);rw [show (m+1) * 4=m * 4+1+1+1+1 by omega,show m * 4+1+1+1+1+2=m * 4+2+1+1+1+1 by omega,show m * 4+1+1+1+1+3=m * 4+3+1+1+1+1 by omega];exact h2
theorem add_add (a:Addr) (i j:Nat):(a.add i).add j=a.add (i+j):=by
 unfold Addr.add;by_cases hi:i=0 <;> by_cases hj:j=0 <;> simp [hi,hj,Nat.add_assoc]
def xA (W:X) (lv:Z) (l:List A4):Prop :=
 (l=[]/\lv=au none 0 0)\/∃ (a:Addr) (cap:Nat),lv=au (Y a) l.length cap/\l.length<=cap/\cap<=maxLen/\∀ j u,(kZ l)[j]?=Y u->W.cell? (a.add j)=Y u
theorem xA.on {W W':X} {lv:Z} {l:List A4} (h:xA W lv l) (hb:Below W.heap.size W W'):xA W' lv l:=by
 rcases h with h|⟨a,cap,h1,h2,h3,h5⟩
 ·exact Or.inl h
 ·exact Or.inr ⟨a,cap,h1,h2,h3,fun j u hj=>by
   have hc:=h5 j u hj;rw [hb.cell (World.block_lt_of_cell? W _ hc)]; exact hc⟩
theorem xA.len {W:X} {lv:Z} {l:List A4} (h:xA W lv l):∃ ao cap,lv=au ao l.length cap:=by
 rcases h with⟨rfl,rfl⟩|⟨a,cap,rfl,_⟩
 ·exact⟨none,0,rfl⟩
 ·exact⟨_,cap,rfl⟩
theorem lt_of_heap {w:X} {b:Nat} {o:Obj} (h:w.heap[b]?=Y o):b<w.heap.size:=by
 rcases Nat.lt_or_ge b w.heap.size with h0|h0
 ·exact h0
 ·simp [Array.getElem?_eq_none h0] at h
theorem xA.VP {W:X} {B:Nat} {lv:Z} {l:List A4} (h:W.ownsRow B 97 4 lv l.length (kZ l)):xA W lv l:=by
 rcases h.2 with⟨h1,h2⟩|⟨g,cap,cur,h1,h2,h3,h4,h5,h6,h7⟩
 ·exact Or.inl ⟨List.eq_nil_of_length_eq_zero h2,h1⟩
 ·exact Or.inr ⟨⟨g,0,none⟩,cap,h1,h4,h5,fun j u hj=>h.cells (g:=g) (by rw [h1]; rfl) j u hj⟩
theorem Jm (a:Addr) (m len cap:Nat) (h:m<len) (w:X):(Instr.indexAt 39 (au (Y a) len cap) (aj .i64 m)).run O w=.ok (.pointer (Y (a.add (m * 4)))) w:=by
 have h1:(m:Int)<len:=by omega
 simp [go_sem,Tryz.underlying39,h1]
end At
namespace Pr
open Go.RowKit Go.Sort Pu Rw Va
theorem Ns (s p:ByteArray) (w:X):ah O 106 #[J s,J p] w fun e w'=>e=D (U (pfx p s))/\w'=w:=by
 show ah O _ _ _ fun e w'=>e=D (U (Lib.hasPrefix s.data.toList p.data.toList))/\w'=w;rw [<- Lib.hasPrefix_of_take,<- ak,<- ak];go_enter Tryz.func106,Tryz.ntmps106;go_wp2
 ·rename_i h
  go_ret;refine⟨?_,rfl⟩;show D (U ((s.extract 0 p.size).toList == p.toList))=_;rw [Lib.extract_toList,Lib.toList_data];simp [h]
 ·rename_i h
  go_ret;refine⟨?_,rfl⟩;show D (U false)=_;simp [h]
theorem tq (s p:ByteArray) (w:X):ah O 77 #[J s,J p] w fun e w'=>e=D (U (pfx p s))/\w'=w:=by
 go_enter Tryz.func77,Tryz.ntmps77;go_wp2_with fail;refine (Ns s p w).mono ?_;rintro e w' ⟨rfl,rfl⟩;go_wp2;go_ret;exact⟨rfl,rfl⟩
theorem VQ (s u:ByteArray) (h:s.size=u.size):pfx u s=(s.data.toList == u.data.toList):=by
 have hl:u.data.toList.length=s.data.toList.length:=by rw [K,K]; exact h.symm
 rw [Bool.eq_iff_iff,beq_iff_eq,fG];exact⟨fun h1=>(h1.eq_of_length hl).symm,fun h1=>by rw [h1]; exact List.prefix_refl _⟩
theorem Qy (s u:ByteArray) (h:¬ s.size=u.size):(s.data.toList == u.data.toList)=false:=by
 rw [beq_eq_false_iff_ne];intro e;have:=congrArg List.length e;rw [K,K] at this;exact h this
theorem hB (w:X) (nm:ByteArray) (k lo hi:Int) (u:ByteArray) (t:Bool) (n:Int) (s:ByteArray):Below w.heap.size w ((w.alloc (.cells #[J nm,aj .i64 k,aj .i64 lo,aj .i64 hi,J u] 106)).alloc (.cells #[U t,aj .i64 n,J s] 93)) :=
 ((Below.refl w.heap.size w).alloc (Nat.le_refl _) _).alloc (by simp) _
theorem Qz (nm:ByteArray) (lo hi:Int) (t:Bool) (n:Int) (s:ByteArray) (w:X):ah O 45 #[cv (r5 (nm,.rg lo hi)),vl t n s] w fun e w'=>e=D (U (dU (.rg lo hi) (t,n,s)))/\Below w.heap.size w w':=by
 simp only [r5,kN,jh,ji,kT];have R:=V (show dU (.rg lo hi) (t,n,s)=(!t && (decide (lo<=n) && decide (n<=hi))) from rfl);have B:=V (hB w nm 1 lo hi ⟨#[]⟩ t n s);generalize dU (.rg lo hi) (t,n,s)=r at *;by_cases h1:lo<=n <;> have H1:=V h1 <;> cases t <;> go_enter Q,L <;> go_wp2 <;> go_ret <;> exact⟨eP (by rw [R.out]; have h:=H1.out; simp [h] <;> omega),B.out⟩
theorem QA (nm u:ByteArray) (t:Bool) (n:Int) (s:ByteArray) (w:X):ah O 45 #[cv (r5 (nm,.tx u)),vl t n s] w fun e w'=>e=D (U (dU (.tx u) (t,n,s)))/\Below w.heap.size w w':=by
 simp only [r5,kN,jh,ji,kT];have R:=V (show dU (.tx u) (t,n,s)=(t && (s.data.toList == u.data.toList)) from rfl);have B:=V (hB w nm 2 0 0 u t n s);generalize dU (.tx u) (t,n,s)=r at *;by_cases h1:s.size=u.size
 ·have e1:(((s.size:Nat):Int) != ((u.size:Nat):Int))=false:=by simp [h1]
  have E:=V (VQ s u h1);clear h1;cases t
  ·go_enter Q,L;go_wp2;go_ret;exact⟨eP (by rw [R.out]; simp),B.out⟩
  ·go_enter Q,L;go_wp2_with fail;refine (tq s u _).mono ?_;rintro e w' ⟨rfl,rfl⟩;go_wp2;go_ret;exact⟨eP (by rw [R.out,E.out]; simp),B.out⟩
 ·have e1:(((s.size:Nat):Int) != ((u.size:Nat):Int))=true:=by simp; omega
  have E:=V (Qy s u h1);clear h1;go_enter Q,L;go_wp2;go_ret;exact⟨eP (by rw [R.out,E.out]; simp),B.out⟩
theorem QB (nm u:ByteArray) (t:Bool) (n:Int) (s:ByteArray) (w:X):ah O 45 #[cv (r5 (nm,.pr u)),vl t n s] w fun e w'=>e=D (U (dU (.pr u) (t,n,s)))/\Below w.heap.size w w':=by
 simp only [r5,kN,jh,ji,kT];have R:=V (show dU (.pr u) (t,n,s)=(t && pfx u s) from rfl);have B:=V (hB w nm 3 0 0 u t n s);generalize dU (.pr u) (t,n,s)=r at *;cases t
 ·go_enter Q,L;go_wp2;go_ret;exact⟨eP (by rw [R.out]; simp),B.out⟩
 ·go_enter Q,L;go_wp2_with fail;refine (tq s u _).mono ?_;rintro e w' ⟨rfl,rfl⟩;go_wp2;go_ret;exact⟨eP (by rw [R.out]; simp),B.out⟩
theorem Bf (c:Cn) (t:Bool) (n:Int) (s:ByteArray) (w:X):ah O 45 #[cv (r5 c),vl t n s] w fun e w'=>e=D (U (dU c.2 (t,n,s)))/\Below w.heap.size w w':=by
 obtain⟨nm,k⟩:=c;cases k with
 | rg lo hi=>exact Qz nm lo hi t n s w
 | tx u=>exact QA nm u t n s w
 | pr u=>exact QB nm u t n s w
end Pr
end Go.Proofs.YtkcfgbddlpomgaaGreat
