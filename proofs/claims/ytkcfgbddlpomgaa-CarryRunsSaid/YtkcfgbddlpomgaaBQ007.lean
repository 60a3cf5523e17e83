/-
  Within of the statem. Conditions as told.
-/
import Derived.Lib.Hide
import Derived.WalkLawsBesides
import Derived.IntWalk
import Derived.Test.YtkcfgbddlpomgaaBQ004
import Derived.Lib.QuietBelow
import Derived.BigQuiet
set_option maxRecDepth 100000
set_option maxHeartbeats 64000000
open _root_.Bool renaming and_eq_true->J,true->O,false->Q
open _root_.List renaming mem_cons->D,mem_map_of_mem->K,pairwise_cons->L
namespace Go.Proofs.Ytkcfgbddlpomgaa
namespace Wi
open Go.RowKit
end Wi
namespace Va
open Go.RowKit
abbrev vl (t:Bool) (n:Int) (s:ByteArray):Value:=.agg #[.bool t,.int .i64 n,.string s]
theorem dN {a b:Bool} (h:a=b):Ending.returned (.bool a)=.returned (.bool b):=by rw [h]
end Va
namespace Pr
open Go.RowKit Go.Sort Pu Rw Va
end Pr
namespace Rl
open Go.RowKit Pu Pr
abbrev An:=ByteArray×V3
theorem uz {c:Cn} {r:List Cn} (h:su (c::r)):∀ y∈r,y.1≠c.1:=fun y hy e=>sj ((L.1 h).1 y hy) e.symm
/-! ### match -/
def ku (p:List Cn) (l:List An):Bool:=p.all fun c=>l.any fun a=>decide (a.1=c.1) && cZ c.2 a.2
theorem uniq {l:List An} (h:(l.map (·.1)).Nodup) {x y:An} (hx:x∈l) (hy:y∈l) (e:x.1=y.1):x=y:=by
 induction l with
 | nil=>cases hx
 | cons z r ih =>
  simp only [List.map_cons,List.nodup_cons] at h;rcases D.1 hx with rfl|hx2 <;> rcases D.1 hy with rfl|hy2
  ·rfl
  ·exact absurd (by rw [e]; exact K hy2) h.1
  ·exact absurd (by rw [<- e]; exact K hx2) h.1
  ·exact ih h.2 hx2 hy2
theorem DR {l:List Cn} (h:su l) {x y:Cn} (hx:x∈l) (hy:y∈l) (e:x.1=y.1):x=y:=by
 induction l with
 | nil=>cases hx
 | cons z r ih =>
  have h1:=uz h;have h2:=(L.1 h).2;rcases D.1 hx with rfl|hx2 <;> rcases D.1 hy with rfl|hy2
  ·rfl
  ·exact absurd e.symm (h1 y hy2)
  ·exact absurd e (h1 x hx2)
  ·exact ih h2 hx2 hy2
/-! ### cover -/
def fF:Kd->Kd->Bool
 | .rg p q,.rg r s=>decide (r<=p) && decide (q<=s)
 | .tx s,.tx t=>s.data.toList == t.data.toList
 | .tx s,.pr t=>pfx t s
 | .pr s,.pr t=>pfx t s
 | _,_=>Q
theorem jy (a b:Kd) (h:fF a b=O) (v:V3) (hv:cZ a v=O):cZ b v=O:=by
 obtain⟨t,n,u⟩:=v;cases a <;> cases b <;> simp only [fF,J,decide_eq_true_eq,beq_iff_eq] at h <;> simp only [cZ,J,decide_eq_true_eq,beq_iff_eq] at hv ⊢
 ·exact⟨hv.1,by omega,by omega⟩
 ·cases h
 ·cases h
 ·cases h
 ·exact⟨hv.1,hv.2.trans h⟩
 ·exact⟨hv.1,by rw [dK,hv.2,<- dK]; exact h⟩
 ·cases h
 ·cases h
 ·exact⟨hv.1,(dK _ _).2 (((dK _ _).1 h).trans ((dK _ _).1 hv.2))⟩
theorem mY (a b:Kd) (ha:fJ a=O) (h:∀ v,cZ a v=O->cZ b v=O):fF a b=O:=by
 cases a with
 | rg p q =>
  simp only [fJ,decide_eq_true_eq] at ha;have h1:=h (Q,p,⟨#[]⟩) (by rw [lJ]; simp [ha]);have h2:=h (Q,q,⟨#[]⟩) (by rw [lJ]; simp [ha]);cases b with
  | rg r s =>
   rw [lJ] at h1 h2;simp only [J,decide_eq_true_eq] at h1 h2;simp [fF,h1.1,h2.2]
  | tx t=>simp [cZ] at h1
  | pr t=>simp [cZ] at h1
 | tx s =>
  have h1:=h (O,0,s) (by rw [gP]; simp);cases b with
  | rg r t=>rw [jl] at h1; cases h1
  | tx t=>rw [gP] at h1; exact h1
  | pr t=>rw [gI] at h1; exact h1
 | pr s =>
  have h1:=h (O,0,s) (by rw [gI]; exact iE s);cases b with
  | rg r t=>rw [jl] at h1; cases h1
  | tx t =>
   have h2:=h (O,0,more s) (by rw [gI]; exact pF s);rw [gP,beq_iff_eq] at h1 h2;rw [<- h1] at h2;have h3:=congrArg List.length h2;simp [more] at h3
  | pr t=>rw [gI] at h1; exact h1
def jS (a b:List Cn):Bool:=a.all fun x=>b.any fun y=>decide (y.1=x.1) && fF y.2 x.2
end Rl
end Go.Proofs.Ytkcfgbddlpomgaa
