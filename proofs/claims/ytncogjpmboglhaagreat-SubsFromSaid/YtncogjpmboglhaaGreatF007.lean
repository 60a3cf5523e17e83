/-
  A region that draws . Conditions as told.
-/
import Derived.Test.YtncogjpmboglhaaGreatF001
import Derived.Test.YtncogjpmboglhaaGreatF006
import Derived.Laws.AppendOwn
import Derived.Laws.OwnMore
import Derived.Deep.Slices
import Derived.WalkKit
import Derived.Maps.AppendAt
import Derived.Lib.QuietBelow
import Derived.BigQuiet
import Derived.Test.YtncogjpmboglhaaGreatF004
import Derived.Test.YtncogjpmboglhaaGreatF000
import Derived.Lib.Bytealg
set_option maxRecDepth 100000
set_option maxHeartbeats 64000000
namespace Go.Proofs.YtncogjpmboglhaaGreat.Rg
open Go.RowKit
theorem eval_some {a:Act} {j:Nat} {v:Value} (h:a.tmps[j]?=some v):a.eval (.tmp j)=v:=by
 have h1:=(Array.getElem?_eq_some_iff.1 h).1
 have h2:=(Array.getElem?_eq_some_iff.1 h).2
 simp [Act.eval,Array.getD,h1,h2]
theorem op_skip {P:Program} {ops:Array Oper} {Q:Exit→Act→World→Prop} {K:Act→World→Prop} {a:Act} {w w':World} {i:Nat} {o:Oper}
  (ho:ops[i]?=some o) (hg:o.guard=none) (hr:(execOp a.eval o).run P w=.ok .skip w') (h:K (a.put o.dst undef) w'):wpOp P ops Q i K a w:=by
 unfold wpOp
 rw [ho]
 have hw:Region.wanted o (yielded ops a.tmps)=true:=by simp [Region.wanted,hg]
 simp only [hw,if_true]
 refine Or.inl ?_
 unfold Oper.wp
 rw [hr]
 exact h
theorem frame_mid {a:Act} {bl:List Value} (d0 m:Nat) (df:a.defers=[]) (sz:a.tmps.size=bl.length) (hle:d0+m≤bl.length) (kp:∀ j,(j<d0∨d0+m≤j)→a.tmps[j]?=bl[j]?) :
  ∃ mid:List Value,mid.length=m∧a=⟨(bl.take d0++(mid++bl.drop (d0+m))).toArray,[]⟩:=by
 obtain⟨tmps,defers⟩:=a
 have hd:defers=[]:=df
 have hs:tmps.size=bl.length:=sz
 have hk:∀ j,(j<d0∨d0+m≤j)→tmps[j]?=bl[j]?:=kp
 subst hd
 have hl:((tmps.toList.drop d0).take m).length=m:=by simp; omega
 refine⟨(tmps.toList.drop d0).take m,hl,congrArg (fun x=>(⟨x,[]⟩:Act)) ?_⟩
 apply Array.ext_getElem?
 intro j
 conv=>rhs; rw [List.getElem?_toArray]
 by_cases h1:j<d0
 ·rw [hk j (Or.inl h1),List.getElem?_append_left (by simp; omega),List.getElem?_take,if_pos h1]
 ·have ht:(bl.take d0).length=d0:=by simp; omega
  rw [List.getElem?_append_right (by omega),ht]
  by_cases h2:j<d0+m
  ·rw [List.getElem?_append_left (by omega),List.getElem?_take,if_pos (by omega),List.getElem?_drop,Array.getElem?_toList,show d0+(j-d0)=j by omega]
  ·rw [hk j (Or.inr (by omega)),List.getElem?_append_right (by omega),hl,List.getElem?_drop,show d0+m+(j-d0-m)=j by omega]
end Go.Proofs.YtncogjpmboglhaaGreat.Rg
namespace Go.Proofs.YtncogjpmboglhaaGreat.At
open Go.RowKit Va
end Go.Proofs.YtncogjpmboglhaaGreat.At
namespace Go.Proofs.YtncogjpmboglhaaGreat.At
open Go.RowKit Va In
end Go.Proofs.YtncogjpmboglhaaGreat.At
namespace Go.Proofs.YtncogjpmboglhaaGreat.At
open Go.RowKit Go.Sort Va In
def letB (c:UInt8):Bool:=decide (97≤c.toNat) && decide (c.toNat≤122)
def nameB (s:ByteArray):Bool:=s.data.toList.all letB && (decide (1≤s.size) && decide (s.size≤12))
end Go.Proofs.YtncogjpmboglhaaGreat.At
namespace Go.Proofs.YtncogjpmboglhaaGreat.Rl
open Go.RowKit Pu Pr
def has (m:List Cn) (n:ByteArray):Bool:=m.any fun x=>decide (x.1=n)
def meetsB (a b:List Cn):Bool:=match foldC a.length a b with
 | .ok _=>true
 | .error _=>false
theorem rise_head {c:Cn} {r:List Cn} (h:RiseC (c::r)):∀ y∈r,y.1≠c.1:=fun y hy e=>less_ne ((List.pairwise_cons.1 h).1 y hy) e.symm
theorem ins_length:∀ (m:List Cn) (c:Cn) (m':List Cn),RiseC m→insC m c=some m'→m'.length=m.length+(if has m c.1 then 0 else 1)
 | [],c,m',_,h=>by
  obtain rfl:=Option.some.inj h
  rfl
 | x::r,c,m',hr,h=>by
  obtain⟨h1,h2⟩:=List.pairwise_cons.1 hr
  simp only [insC] at h
  split at h
  ·rename_i hl
   cases hi:insC r c with
   | none=>rw [hi] at h; cases h
   | some n =>
    rw [hi] at h
    obtain rfl:=Option.some.inj h
    have e:=ins_length r c n h2 hi
    have hx:has (x::r) c.1=has r c.1:=by simp [has,less_ne hl]
    rw [hx]
    simp only [List.length_cons]
    omega
  ·rename_i hl
   split at h
   ·rename_i he
    cases hb:bothK x.2 c.2 with
    | none=>rw [hb] at h; cases h
    | some k =>
     rw [hb] at h
     obtain rfl:=Option.some.inj h
     have hx:has (x::r) c.1=true:=by simp [has,he]
     rw [hx]
     rfl
   ·rename_i he
    obtain rfl:=Option.some.inj h
    have hx:has (x::r) c.1=false:=by
     simp only [has,List.any_cons,Bool.or_eq_false_iff,decide_eq_false_iff_not,List.any_eq_false,decide_eq_true_eq]
     refine⟨he,fun y hy e=>?_⟩
     have h3:=h1 y hy
     rw [e] at h3
     exact hl h3
    rw [hx]
    rfl
/-! ### match -/
theorem uniqC {l:List Cn} (h:RiseC l) {x y:Cn} (hx:x∈l) (hy:y∈l) (e:x.1=y.1):x=y:=by
 induction l with
 | nil=>cases hx
 | cons z r ih =>
  have h1:=rise_head h
  have h2:=(List.pairwise_cons.1 h).2
  rcases List.mem_cons.1 hx with rfl|hx2 <;> rcases List.mem_cons.1 hy with rfl|hy2
  ·rfl
  ·exact absurd e.symm (h1 y hy2)
  ·exact absurd e (h1 x hx2)
  ·exact ih h2 hx2 hy2
/-! ### cover -/
def impliesK:Kd→Kd→Bool
 | .rg p q,.rg r s=>decide (r≤p) && decide (q≤s)
 | .tx s,.tx t=>s.data.toList == t.data.toList
 | .tx s,.pr t=>pfx t s
 | .pr s,.pr t=>pfx t s
 | _,_=>false
theorem implies_holds (a b:Kd) (h:impliesK a b=true) (v:V3) (hv:holdsK a v=true):holdsK b v=true:=by
 obtain⟨t,n,u⟩:=v
 cases a <;> cases b <;> simp only [impliesK,Bool.and_eq_true,decide_eq_true_eq,beq_iff_eq] at h <;> simp only [holdsK,Bool.and_eq_true,decide_eq_true_eq,beq_iff_eq] at hv ⊢
 ·exact⟨hv.1,by omega,by omega⟩
 ·cases h
 ·cases h
 ·cases h
 ·exact⟨hv.1,hv.2.trans h⟩
 ·exact⟨hv.1,by rw [pfx_iff,hv.2,← pfx_iff]; exact h⟩
 ·cases h
 ·cases h
 ·exact⟨hv.1,(pfx_iff _ _).2 (((pfx_iff _ _).1 h).trans ((pfx_iff _ _).1 hv.2))⟩
theorem holds_implies (a b:Kd) (ha:goodK a=true) (h:∀ v,holdsK a v=true→holdsK b v=true):impliesK a b=true:=by
 cases a with
 | rg p q =>
  simp only [goodK,decide_eq_true_eq] at ha
  have h1:=h (false,p,⟨#[]⟩) (by rw [hold_n]; simp [ha])
  have h2:=h (false,q,⟨#[]⟩) (by rw [hold_n]; simp [ha])
  cases b with
  | rg r s =>
   rw [hold_n] at h1 h2
   simp only [Bool.and_eq_true,decide_eq_true_eq] at h1 h2
   simp [impliesK,h1.1,h2.2]
  | tx t=>simp [holdsK] at h1
  | pr t=>simp [holdsK] at h1
 | tx s =>
  have h1:=h (true,0,s) (by rw [hold_tx]; simp)
  cases b with
  | rg r t=>rw [hold_rg] at h1; cases h1
  | tx t=>rw [hold_tx] at h1; exact h1
  | pr t=>rw [hold_pr] at h1; exact h1
 | pr s =>
  have h1:=h (true,0,s) (by rw [hold_pr]; exact pfx_self s)
  cases b with
  | rg r t=>rw [hold_rg] at h1; cases h1
  | tx t =>
   have h2:=h (true,0,more s) (by rw [hold_pr]; exact pfx_more s)
   rw [hold_tx,beq_iff_eq] at h1 h2
   rw [← h1] at h2
   have h3:=congrArg List.length h2
   simp [more] at h3
  | pr t=>rw [hold_pr] at h1; exact h1
def coversL (a b:List Cn):Bool:=a.all fun x=>b.any fun y=>decide (y.1=x.1) && impliesK y.2 x.2
def foldR:List Cn→List Cn→Option (List Cn)
 | m,[]=>some m
 | m,c::r=>match insC m c with
  | none=>none
  | some n=>foldR n r
theorem foldR_len:∀ (r m p:List Cn),RiseC m→foldR m r=some p→m.length≤p.length∧RiseC p
 | [],m,p,hm,h=>by
  obtain rfl:=Option.some.inj h
  exact⟨Nat.le_refl _,hm⟩
 | c::r,m,p,hm,h=>by
  simp only [foldR] at h
  cases hi:insC m c with
  | none=>rw [hi] at h; cases h
  | some n =>
   rw [hi] at h
   have e1:=ins_length m c n hm hi
   obtain⟨e2,e3⟩:=foldR_len r n p (ins_rise m c n hm hi).1 h
   exact⟨by omega,e3⟩
theorem foldC_R:∀ (r m p:List Cn) (at_:Nat),RiseC m→m.length≤5→(foldC at_ m r=.ok p↔foldR m r=some p∧p.length≤5)
 | [],m,p,at_,_,h5=>by
  simp only [foldC,foldR]
  constructor
  ·intro h
   injection h with h
   subst h
   exact⟨rfl,h5⟩
  ·rintro⟨h,_⟩
   rw [Option.some.inj h]
 | c::r,m,p,at_,hm,h5=>by
  simp only [foldC,foldR]
  cases hi:insC m c with
  | none =>
   constructor
   ·intro h; cases h
   ·rintro⟨h,_⟩; cases h
  | some n =>
   simp only
   have hn:=(ins_rise m c n hm hi).1
   by_cases h6:5<n.length
   ·rw [if_pos h6]
    constructor
    ·intro h; cases h
    ·rintro⟨h,h7⟩
     have:=(foldR_len r n p hn h).1
     omega
   ·rw [if_neg h6]
    exact foldC_R r n p (at_+1) hn (by omega)
theorem foldR_append:∀ (a b m m':List Cn),foldR m a=some m'→foldR m (a++b)=foldR m' b
 | [],b,m,m',h=>by
  obtain rfl:=Option.some.inj h
  rfl
 | c::r,b,m,m',h=>by
  simp only [List.cons_append,foldR] at h ⊢
  cases hi:insC m c with
  | none=>rw [hi] at h; cases h
  | some n =>
   rw [hi] at h
   exact foldR_append r b n m' h
theorem foldR_end:∀ (p m:List Cn),RiseC (m++p)→foldR m p=some (m++p)
 | [],m,_=>by simp [foldR]
 | c::r,m,h=>by
  have h1:∀ x∈m,Op.bytesLess x.1.toList c.1.toList=true:=fun x hx=>(List.pairwise_append.1 h).2.2 x hx c (List.mem_cons_self ..)
  simp only [foldR]
  rw [ins_end m c h1]
  simp only
  rw [foldR_end r (m++[c]) (by simpa using h)]
  simp
theorem ref_both {a b:List Cn} (ha:RiseC a):foldR [] (a++b)=foldR a b:=foldR_append a b [] a (by simpa using foldR_end a [] (by simpa using ha))
theorem meetsB_R {a b:List Cn} (ha:RiseC a) (h5:a.length≤5):meetsB a b=match foldR a b with
  | some p=>decide (p.length≤5)
  | none=>false:=by
 unfold meetsB
 cases h:foldR a b with
 | none =>
  cases h2:foldC a.length a b with
  | ok p =>
   have:=(foldC_R b a p a.length ha h5).1 h2
   rw [h] at this
   cases this.1
  | error e=>rfl
 | some p =>
  by_cases h6:p.length≤5
  ·rw [(foldC_R b a p a.length ha h5).2 ⟨h,h6⟩]
   simp [h6]
  ·cases h2:foldC a.length a b with
   | ok q =>
    have h3:=(foldC_R b a q a.length ha h5).1 h2
    rw [h] at h3
    obtain rfl:=Option.some.inj h3.1
    exact absurd h3.2 h6
   | error e=>simp [h6]
end Go.Proofs.YtncogjpmboglhaaGreat.Rl
namespace Go.Proofs.YtncogjpmboglhaaGreat.Rl
open Go.RowKit Pu Rw Pr
end Go.Proofs.YtncogjpmboglhaaGreat.Rl
namespace Go.Proofs.YtncogjpmboglhaaGreat.Pr
open Go.RowKit Pu
def cntC:List Cn→ByteArray→Nat
 | [],_=>0
 | x::r,n=>if Op.bytesLess x.1.toList n.toList=true then cntC r n+1 else 0
theorem cntC_le:∀ l n,cntC l n≤l.length
 | [],n=>Nat.le_refl _
 | x::r,n=>by
  have:=cntC_le r n
  simp only [cntC]
  split <;> simp; omega
def thereC (l:List Cn) (n:ByteArray):Bool:=match l[cntC l n]? with
 | some x=>decide (x.1=n)
 | none=>false
def putC (m:List Cn) (c:Cn):Option (List Cn):=match m[cntC m c.1]? with
 | some x=>if x.1=c.1 then (bothK x.2 c.2).map fun k=>m.set (cntC m c.1) (x.1,k) else some (m.take (cntC m c.1)++c::m.drop (cntC m c.1))
 | none=>some (m.take (cntC m c.1)++c::m.drop (cntC m c.1))
theorem insC_at:∀ (m:List Cn) (c:Cn),insC m c=putC m c
 | [],c=>rfl
 | x::r,c=>by
  unfold putC
  simp only [insC,cntC]
  split
  ·rw [insC_at r c,putC]
   simp only [List.getElem?_cons_succ,List.take_succ_cons,List.drop_succ_cons,List.set_cons_succ]
   cases h:r[cntC r c.1]? with
   | none=>simp
   | some y =>
    simp only
    split
    ·simp [Option.map_map,Function.comp_def]
    ·simp
  ·simp
theorem ins_there {m:List Cn} {c:Cn} (h:thereC m c.1=true):∃ x,m[cntC m c.1]?=some x∧x.1=c.1∧insC m c=(bothK x.2 c.2).map fun k=>m.set (cntC m c.1) (x.1,k):=by
 rw [insC_at]
 unfold thereC at h
 unfold putC
 cases hx:m[cntC m c.1]? with
 | none=>rw [hx] at h; cases h
 | some x =>
  rw [hx] at h
  have e:x.1=c.1:=by simpa using h
  exact⟨x,rfl,e,by simp only; rw [if_pos e]⟩
theorem ins_not {m:List Cn} {c:Cn} (h:thereC m c.1=false):insC m c=some (m.take (cntC m c.1)++c::m.drop (cntC m c.1)):=by
 rw [insC_at]
 unfold thereC at h
 unfold putC
 cases hx:m[cntC m c.1]? with
 | none=>rfl
 | some x =>
  rw [hx] at h
  have e:¬ x.1=c.1:=by simpa using h
  simp only
  rw [if_neg e]
end Go.Proofs.YtncogjpmboglhaaGreat.Pr
