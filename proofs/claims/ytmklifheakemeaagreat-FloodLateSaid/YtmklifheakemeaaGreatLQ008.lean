/-
  Plain facts on how p. Conditions as told.
-/
import Derived.Test.YtmklifheakemeaaGreatLQ003
import Derived.Test.YtmklifheakemeaaGreatLQ001
import Derived.Lib.Strings
set_option maxRecDepth 100000
set_option maxHeartbeats 64000000
open _root_.Bool renaming false->ah,and_eq_true->aA,true->aF
open _root_.Go renaming World->U,Calls->X
open Go.Ending renaming returned->J
open Go.Lib renaming hid->D,toList_data->aD,size_eq->aK
open Go.Proofs.Tryz renaming prog->K,ntmps174->L,func174->O,results152->Z,ntmps172->au,ntmps152->ay,func172->aB,func152->aC,ntmps173->aH,func173->aI
open Go.RowKit renaming Below->Y
open Go.Value renaming bool->Q,string->ak,int->aJ
open _root_.List renaming pairwise_cons->aj,mem_cons->aG
open Option.some renaming inj->V
namespace Go.Proofs.YtmklifheakemeaaGreat
namespace Rl
open Go.RowKit Pu Pr
abbrev An:=ByteArray×V3
def has (m:List Cn) (n:ByteArray):Bool:=m.any fun x=>decide (x.1=n)
def oh (a b:List Cn):Bool:=match iW a.length a b with
 | .ok _=>aF
 | .error _=>ah
theorem Jj {c:Cn} {r:List Cn} (h:iP (c::r)):∀ y∈r,y.1≠c.1:=fun y hy e=>Gb ((aj.1 h).1 y hy) e.symm
theorem vE:∀ (m:List Cn) (c:Cn) (m':List Cn),iP m->lg m c=some m'->m'.length=m.length+(if has m c.1 then 0 else 1)
 | [],c,m',_,h=>by
  obtain rfl:=V h
  rfl
 | x::r,c,m',hr,h=>by
  obtain⟨h1,h2⟩:=aj.1 hr;simp only [lg] at h
  split at h
  ·rename_i hl
   cases hi:lg r c with
   | none=>rw [hi] at h; cases h
   | some n =>
    rw [hi] at h;obtain rfl:=V h;have e:=vE r c n h2 hi;have hx:has (x::r) c.1=has r c.1:=by simp [has,Gb hl]
    rw [hx];simp only [List.length_cons];omega
  ·rename_i hl
   split at h
   ·rename_i he
    cases hb:eX x.2 c.2 with
    | none=>rw [hb] at h; cases h
    | some k =>
     rw [hb] at h;obtain rfl:=V h;have hx:has (x::r) c.1=aF:=by simp [has,he]
     rw [hx]
     rfl
   ·rename_i he
    obtain rfl:=V h;have hx:has (x::r) c.1=ah:=by
     simp only [has,List.any_cons,Bool.or_eq_false_iff,decide_eq_false_iff_not,List.any_eq_false,decide_eq_true_eq];refine⟨he,fun y hy e=>?_⟩;have h3:=h1 y hy;rw [e] at h3;exact hl h3
    rw [hx]
    rfl
/-! ### match -/
theorem XA {l:List Cn} (h:iP l) {x y:Cn} (hx:x∈l) (hy:y∈l) (e:x.1=y.1):x=y:=by
 induction l with
 | nil=>cases hx
 | cons z r ih =>
  have h1:=Jj h;have h2:=(aj.1 h).2;rcases aG.1 hx with rfl|hx2 <;> rcases aG.1 hy with rfl|hy2
  ·rfl
  ·exact absurd e.symm (h1 y hy2)
  ·exact absurd e (h1 x hx2)
  ·exact ih h2 hx2 hy2
/-! ### cover -/
def eF:Kd->Kd->Bool
 | .rg p q,.rg r s=>decide (r<=p) && decide (q<=s)
 | .tx s,.tx t=>s.data.toList == t.data.toList
 | .tx s,.pr t=>pfx t s
 | .pr s,.pr t=>pfx t s
 | _,_=>ah
theorem qd (a b:Kd) (h:eF a b=aF) (v:V3) (hv:dR a v=aF):dR b v=aF:=by
 obtain⟨t,n,u⟩:=v;cases a <;> cases b <;> simp only [eF,aA,decide_eq_true_eq,beq_iff_eq] at h <;> simp only [dR,aA,decide_eq_true_eq,beq_iff_eq] at hv ⊢
 ·exact⟨hv.1,by omega,by omega⟩
 ·cases h
 ·cases h
 ·cases h
 ·exact⟨hv.1,hv.2.trans h⟩
 ·exact⟨hv.1,by rw [fG,hv.2,<- fG]; exact h⟩
 ·cases h
 ·cases h
 ·exact⟨hv.1,(fG _ _).2 (((fG _ _).1 h).trans ((fG _ _).1 hv.2))⟩
theorem xL (a b:Kd) (ha:gQ a=aF) (h:∀ v,dR a v=aF->dR b v=aF):eF a b=aF:=by
 cases a with
 | rg p q =>
  simp only [gQ,decide_eq_true_eq] at ha;have h1:=h (ah,p,⟨#[]⟩) (by rw [uU]; simp [ha]);have h2:=h (ah,q,⟨#[]⟩) (by rw [uU]; simp [ha]);cases b with
  | rg r s =>
   rw [uU] at h1 h2;simp only [aA,decide_eq_true_eq] at h1 h2;simp [eF,h1.1,h2.2]
  | tx t=>simp [dR] at h1
  | pr t=>simp [dR] at h1
 | tx s =>
  have h1:=h (aF,0,s) (by rw [kL]; simp);cases b with
  | rg r t=>rw [oO] at h1; cases h1
  | tx t=>rw [kL] at h1; exact h1
  | pr t=>rw [jM] at h1; exact h1
 | pr s =>
  have h1:=h (aF,0,s) (by rw [jM]; exact kZ s);cases b with
  | rg r t=>rw [oO] at h1; cases h1
  | tx t =>
   have h2:=h (aF,0,more s) (by rw [jM]; exact Ab s);rw [kL,beq_iff_eq] at h1 h2;rw [<- h1] at h2;have h3:=congrArg List.length h2;simp [more] at h3
  | pr t=>rw [jM] at h1; exact h1
def lV (a b:List Cn):Bool:=a.all fun x=>b.any fun y=>decide (y.1=x.1) && eF y.2 x.2
end Rl
namespace Rl
open Go.RowKit Pu Rw Pr Va
theorem lD (s p:ByteArray) (w:U):X K 173 #[ak s,ak p] w fun e w'=>e=J (Q (pfx p s))/\w'=w:=by
 show X K _ _ _ fun e w'=>e=J (Q (Lib.hasPrefix s.data.toList p.data.toList))/\w'=w;rw [<- Lib.hasPrefix_of_take,<- aK,<- aK];by_cases h:p.size<=s.size
 ·have e1:(((s.size:Nat):Int) ≥ ((p.size:Nat):Int)):=by omega
  have H:=D h;go_enter aI,aH;go_wp2
  all_goals (go_ret; refine⟨?_,rfl⟩; show J (Q ((s.extract 0 p.size).toList == p.toList))=_; rw [Lib.extract_toList,aD]; simp [h])
 ·have H:=D h;go_enter aI,aH;go_wp2
  all_goals (go_ret; refine⟨?_,rfl⟩; show J (Q ah)=_; simp [H.out])
theorem rB (w:U) (nm:ByteArray) (k lo hi:Int) (u:ByteArray) (t:Bool) (n:Int) (s:ByteArray):Y w.heap.size w ((w.alloc (.cells #[ak nm,aJ .i64 k,aJ .i64 lo,aJ .i64 hi,ak u] 70)).alloc (.cells #[Q t,aJ .i64 n,ak s] 154)) :=
 ((Below.refl w.heap.size w).alloc (Nat.le_refl _) _).alloc (by simp) _
theorem rC (w:U) (nm:ByteArray) (k lo hi:Int) (u:ByteArray) (nm':ByteArray) (k' lo' hi':Int) (u':ByteArray):Y w.heap.size w ((w.alloc (.cells #[ak nm,aJ .i64 k,aJ .i64 lo,aJ .i64 hi,ak u] 70)).alloc (.cells #[ak nm',aJ .i64 k',aJ .i64 lo',aJ .i64 hi',ak u'] 70)) :=
 ((Below.refl w.heap.size w).alloc (Nat.le_refl _) _).alloc (by simp) _
theorem Jk (nm:ByteArray) (lo hi:Int) (t:Bool) (n:Int) (s:ByteArray) (w:U):X K 172 #[cv (r5 (nm,.rg lo hi)),vl t n s] w fun e w'=>e=J (Q (dR (.rg lo hi) (t,n,s)))/\Y w.heap.size w w':=by
 simp only [r5,kN,iJ,iK,kT];have R:=D (show dR (.rg lo hi) (t,n,s)=(!t && (decide (lo<=n) && decide (n<=hi))) from rfl);have B:=D (rB w nm 1 lo hi ⟨#[]⟩ t n s);generalize dR (.rg lo hi) (t,n,s)=r at *;by_cases h1:lo<=n <;> have H1:=D h1 <;> cases t <;> go_enter aB,au <;> go_wp2 <;> go_ret <;> exact⟨dP (by rw [R.out]; have h:=H1.out; simp [h] <;> omega),B.out⟩
theorem Jl (nm u:ByteArray) (t:Bool) (n:Int) (s:ByteArray) (w:U):X K 172 #[cv (r5 (nm,.tx u)),vl t n s] w fun e w'=>e=J (Q (dR (.tx u) (t,n,s)))/\Y w.heap.size w w':=by
 simp only [r5,kN,iJ,iK,kT];have R:=D (show dR (.tx u) (t,n,s)=(t && (s.data.toList == u.data.toList)) from rfl);have B:=D (rB w nm 2 0 0 u t n s);generalize dR (.tx u) (t,n,s)=r at *;cases t <;> go_enter aB,au <;> go_wp2 <;> go_ret <;> exact⟨dP (by rw [R.out]; simp [aD]),B.out⟩
theorem Jm (nm u:ByteArray) (t:Bool) (n:Int) (s:ByteArray) (w:U):X K 172 #[cv (r5 (nm,.pr u)),vl t n s] w fun e w'=>e=J (Q (dR (.pr u) (t,n,s)))/\Y w.heap.size w w':=by
 simp only [r5,kN,iJ,iK,kT];have R:=D (show dR (.pr u) (t,n,s)=(t && pfx u s) from rfl);have B:=D (rB w nm 3 0 0 u t n s);generalize dR (.pr u) (t,n,s)=r at *;cases t
 ·go_enter aB,au;go_wp2;go_ret;exact⟨dP (by rw [R.out]; simp),B.out⟩
 ·go_enter aB,au;go_wp2_with fail;refine (lD s u _).mono ?_;rintro e w' ⟨rfl,rfl⟩;go_wp2;go_ret;exact⟨dP (by rw [R.out]; simp),B.out⟩
theorem qy (c:Cn) (t:Bool) (n:Int) (s:ByteArray) (w:U):X K 172 #[cv (r5 c),vl t n s] w fun e w'=>e=J (Q (dR c.2 (t,n,s)))/\Y w.heap.size w w':=by
 obtain⟨nm,k⟩:=c;cases k with
 | rg lo hi=>exact Jk nm lo hi t n s w
 | tx u=>exact Jl nm u t n s w
 | pr u=>exact Jm nm u t n s w
theorem UR (n1 n2:ByteArray) (lo1 hi1:Int) (lo2 hi2:Int) (w:U):X K 174 #[cv (r5 (n1,(.rg lo1 hi1))),cv (r5 (n2,(.rg lo2 hi2)))] w fun e w'=>e=J (Q (eF (.rg lo1 hi1) (.rg lo2 hi2)))/\Y w.heap.size w w':=by
 simp only [r5,kN,iJ,iK,kT];have B:=D (rC w n1 1 lo1 hi1 ⟨#[]⟩ n2 1 lo2 hi2 ⟨#[]⟩);have R:=D (show eF (.rg lo1 hi1) (.rg lo2 hi2)=(decide (lo2<=lo1) && decide (hi1<=hi2)) from rfl);generalize eF (.rg lo1 hi1) (.rg lo2 hi2)=r at *;by_cases h1:lo2<=lo1 <;> have H1:=D h1 <;> go_enter O,L <;> go_wp2 <;> go_ret <;> exact⟨dP (by rw [R.out]; have h:=H1.out; simp [h] <;> omega),B.out⟩
theorem UU (n1 n2:ByteArray) (lo1 hi1:Int) (u2:ByteArray) (w:U):X K 174 #[cv (r5 (n1,(.rg lo1 hi1))),cv (r5 (n2,(.tx u2)))] w fun e w'=>e=J (Q (eF (.rg lo1 hi1) (.tx u2)))/\Y w.heap.size w w':=by
 simp only [r5,kN,iJ,iK,kT];have B:=D (rC w n1 1 lo1 hi1 ⟨#[]⟩ n2 2 0 0 u2);have R:=D (show eF (.rg lo1 hi1) (.tx u2)=(ah) from rfl);generalize eF (.rg lo1 hi1) (.tx u2)=r at *;go_enter O,L <;> go_wp2 <;> go_ret <;> exact⟨dP (by rw [R.out]),B.out⟩
theorem UW (n1 n2:ByteArray) (lo1 hi1:Int) (u2:ByteArray) (w:U):X K 174 #[cv (r5 (n1,(.rg lo1 hi1))),cv (r5 (n2,(.pr u2)))] w fun e w'=>e=J (Q (eF (.rg lo1 hi1) (.pr u2)))/\Y w.heap.size w w':=by
 simp only [r5,kN,iJ,iK,kT];have B:=D (rC w n1 1 lo1 hi1 ⟨#[]⟩ n2 3 0 0 u2);have R:=D (show eF (.rg lo1 hi1) (.pr u2)=(ah) from rfl);generalize eF (.rg lo1 hi1) (.pr u2)=r at *;go_enter O,L <;> go_wp2 <;> go_ret <;> exact⟨dP (by rw [R.out]),B.out⟩
theorem UY (n1 n2:ByteArray) (u1:ByteArray) (lo2 hi2:Int) (w:U):X K 174 #[cv (r5 (n1,(.tx u1))),cv (r5 (n2,(.rg lo2 hi2)))] w fun e w'=>e=J (Q (eF (.tx u1) (.rg lo2 hi2)))/\Y w.heap.size w w':=by
 simp only [r5,kN,iJ,iK,kT];have B:=D (rC w n1 2 0 0 u1 n2 1 lo2 hi2 ⟨#[]⟩);have R:=D (show eF (.tx u1) (.rg lo2 hi2)=(ah) from rfl);generalize eF (.tx u1) (.rg lo2 hi2)=r at *;go_enter O,L <;> go_wp2 <;> go_ret <;> exact⟨dP (by rw [R.out]),B.out⟩
theorem UZ (n1 n2:ByteArray) (u1:ByteArray) (u2:ByteArray) (w:U):X K 174 #[cv (r5 (n1,(.tx u1))),cv (r5 (n2,(.tx u2)))] w fun e w'=>e=J (Q (eF (.tx u1) (.tx u2)))/\Y w.heap.size w w':=by
 simp only [r5,kN,iJ,iK,kT];have B:=D (rC w n1 2 0 0 u1 n2 2 0 0 u2);have R:=D (show eF (.tx u1) (.tx u2)=(u1.data.toList == u2.data.toList) from rfl);generalize eF (.tx u1) (.tx u2)=r at *;go_enter O,L <;> go_wp2 <;> go_ret <;> exact⟨dP (by rw [R.out]; simp [aD]),B.out⟩
theorem U0 (n1 n2:ByteArray) (u1:ByteArray) (u2:ByteArray) (w:U):X K 174 #[cv (r5 (n1,(.tx u1))),cv (r5 (n2,(.pr u2)))] w fun e w'=>e=J (Q (eF (.tx u1) (.pr u2)))/\Y w.heap.size w w':=by
 simp only [r5,kN,iJ,iK,kT];have B:=D (rC w n1 2 0 0 u1 n2 3 0 0 u2);have R:=D (show eF (.tx u1) (.pr u2)=(pfx u2 u1) from rfl);generalize eF (.tx u1) (.pr u2)=r at *;go_enter O,L;go_wp2_with fail;refine (lD u1 u2 _).mono ?_;rintro e w' ⟨rfl,rfl⟩;go_wp2;go_ret;exact⟨dP (by rw [R.out]),B.out⟩
theorem U2 (n1 n2:ByteArray) (u1:ByteArray) (lo2 hi2:Int) (w:U):X K 174 #[cv (r5 (n1,(.pr u1))),cv (r5 (n2,(.rg lo2 hi2)))] w fun e w'=>e=J (Q (eF (.pr u1) (.rg lo2 hi2)))/\Y w.heap.size w w':=by
 simp only [r5,kN,iJ,iK,kT];have B:=D (rC w n1 3 0 0 u1 n2 1 lo2 hi2 ⟨#[]⟩);have R:=D (show eF (.pr u1) (.rg lo2 hi2)=(ah) from rfl);generalize eF (.pr u1) (.rg lo2 hi2)=r at *;go_enter O,L <;> go_wp2 <;> go_ret <;> exact⟨dP (by rw [R.out]),B.out⟩
theorem U4 (n1 n2:ByteArray) (u1:ByteArray) (u2:ByteArray) (w:U):X K 174 #[cv (r5 (n1,(.pr u1))),cv (r5 (n2,(.tx u2)))] w fun e w'=>e=J (Q (eF (.pr u1) (.tx u2)))/\Y w.heap.size w w':=by
 simp only [r5,kN,iJ,iK,kT];have B:=D (rC w n1 3 0 0 u1 n2 2 0 0 u2);have R:=D (show eF (.pr u1) (.tx u2)=(ah) from rfl);generalize eF (.pr u1) (.tx u2)=r at *;go_enter O,L <;> go_wp2 <;> go_ret <;> exact⟨dP (by rw [R.out]),B.out⟩
theorem U5 (n1 n2:ByteArray) (u1:ByteArray) (u2:ByteArray) (w:U):X K 174 #[cv (r5 (n1,(.pr u1))),cv (r5 (n2,(.pr u2)))] w fun e w'=>e=J (Q (eF (.pr u1) (.pr u2)))/\Y w.heap.size w w':=by
 simp only [r5,kN,iJ,iK,kT];have B:=D (rC w n1 3 0 0 u1 n2 3 0 0 u2);have R:=D (show eF (.pr u1) (.pr u2)=(pfx u2 u1) from rfl);generalize eF (.pr u1) (.pr u2)=r at *;go_enter O,L;go_wp2_with fail;refine (lD u1 u2 _).mono ?_;rintro e w' ⟨rfl,rfl⟩;go_wp2;go_ret;exact⟨dP (by rw [R.out]),B.out⟩
theorem Az (c d:Cn) (w:U):X K 174 #[cv (r5 c),cv (r5 d)] w fun e w'=>e=J (Q (eF c.2 d.2))/\Y w.heap.size w w':=by
 obtain⟨n1,k1⟩:=c;obtain⟨n2,k2⟩:=d;cases k1 <;> cases k2
 ·exact UR _ _ _ _ _ _ _
 ·exact UU _ _ _ _ _ _
 ·exact UW _ _ _ _ _ _
 ·exact UY _ _ _ _ _ _
 ·exact UZ _ _ _ _ _
 ·exact U0 _ _ _ _ _
 ·exact U2 _ _ _ _ _ _
 ·exact U4 _ _ _ _ _
 ·exact U5 _ _ _ _ _
def Gh (n:ByteArray) (r:Option Kd) (w:U) (e:Ending) (w':U):Prop:=(∃ c,e=J (.tuple #[cv c,Q r.isSome])/\∀ k,r=some k->c=r5 (n,k))/\Y w.heap.size w w'
theorem zK {n:ByteArray} {w w':U} (c:C5) (h:Y w.heap.size w w'):Gh n none w (J (.tuple #[cv c,Q ah])) w':=⟨⟨c,rfl,fun _ h=>by cases h⟩,h⟩
theorem U6 {n:ByteArray} {w w':U} (b:Bool) (k:Kd) (h:Y w.heap.size w w'):Gh n (if b=aF then some k else none) w (J (.tuple #[cv (r5 (n,k)),Q b])) w':=by
 cases b
 ·exact⟨⟨_,rfl,fun _ h=>by cases h⟩,h⟩
 ·exact⟨⟨_,rfl,fun _ h=>by rw [<- V h]⟩,h⟩
theorem K4 (n:ByteArray) (lo1 hi1:Int) (u2:ByteArray) (w:U):X K 152 #[cv (r5 (n,(.rg lo1 hi1))),cv (r5 (n,(.tx u2)))] w (Gh n (eX (.rg lo1 hi1) (.tx u2)) w):=by
 have R:=D (show eX (.rg lo1 hi1) (.tx u2)=none from rfl);rw [R.out];clear R;simp only [r5,kN,iJ,iK,kT];have B:=D (rC w n 1 lo1 hi1 ⟨#[]⟩ n 2 0 0 u2);go_enter aC,ay;go_wp2;exact bodyPost_ret (v:=.tuple #[cv (n,1,lo1,hi1,⟨#[]⟩),Q ah]) (by simp [results,Z,go_sem]) rfl (zK (n,1,lo1,hi1,⟨#[]⟩) (by first | exact B.out.alloc B.out.size _ | exact (((((B.out.alloc B.out.size _).setCell (by simp) _).setCell (by simp) _).setCell (by simp) _).setCell (by simp) _).setCell (by simp) _))
theorem K6 (n:ByteArray) (lo1 hi1:Int) (u2:ByteArray) (w:U):X K 152 #[cv (r5 (n,(.rg lo1 hi1))),cv (r5 (n,(.pr u2)))] w (Gh n (eX (.rg lo1 hi1) (.pr u2)) w):=by
 have R:=D (show eX (.rg lo1 hi1) (.pr u2)=none from rfl);rw [R.out];clear R;simp only [r5,kN,iJ,iK,kT];have B:=D (rC w n 1 lo1 hi1 ⟨#[]⟩ n 3 0 0 u2);go_enter aC,ay;go_wp2;exact bodyPost_ret (v:=.tuple #[cv (n,1,lo1,hi1,⟨#[]⟩),Q ah]) (by simp [results,Z,go_sem]) rfl (zK (n,1,lo1,hi1,⟨#[]⟩) (by first | exact B.out.alloc B.out.size _ | exact (((((B.out.alloc B.out.size _).setCell (by simp) _).setCell (by simp) _).setCell (by simp) _).setCell (by simp) _).setCell (by simp) _))
theorem K7 (n:ByteArray) (u1:ByteArray) (lo2 hi2:Int) (w:U):X K 152 #[cv (r5 (n,(.tx u1))),cv (r5 (n,(.rg lo2 hi2)))] w (Gh n (eX (.tx u1) (.rg lo2 hi2)) w):=by
 have R:=D (show eX (.tx u1) (.rg lo2 hi2)=none from rfl);rw [R.out];clear R;simp only [r5,kN,iJ,iK,kT];have B:=D (rC w n 2 0 0 u1 n 1 lo2 hi2 ⟨#[]⟩);go_enter aC,ay;go_wp2;exact bodyPost_ret (v:=.tuple #[cv (n,2,0,0,u1),Q ah]) (by simp [results,Z,go_sem]) rfl (zK (n,2,0,0,u1) (by first | exact B.out.alloc B.out.size _ | exact (((((B.out.alloc B.out.size _).setCell (by simp) _).setCell (by simp) _).setCell (by simp) _).setCell (by simp) _).setCell (by simp) _))
theorem K8 (n:ByteArray) (u1:ByteArray) (lo2 hi2:Int) (w:U):X K 152 #[cv (r5 (n,(.pr u1))),cv (r5 (n,(.rg lo2 hi2)))] w (Gh n (eX (.pr u1) (.rg lo2 hi2)) w):=by
 have R:=D (show eX (.pr u1) (.rg lo2 hi2)=none from rfl);rw [R.out];clear R;simp only [r5,kN,iJ,iK,kT];have B:=D (rC w n 3 0 0 u1 n 1 lo2 hi2 ⟨#[]⟩);go_enter aC,ay;go_wp2;exact bodyPost_ret (v:=.tuple #[cv (n,3,0,0,u1),Q ah]) (by simp [results,Z,go_sem]) rfl (zK (n,3,0,0,u1) (by first | exact B.out.alloc B.out.size _ | exact (((((B.out.alloc B.out.size _).setCell (by simp) _).setCell (by simp) _).setCell (by simp) _).setCell (by simp) _).setCell (by simp) _))
end Rl
end Go.Proofs.YtmklifheakemeaaGreat
