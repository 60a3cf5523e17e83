/-
  Constraints in memor. Conditions as told.
-/
import Derived.Test.YtkcfgbddlpomgaaGreatDQ004
import Derived.Test.YtkcfgbddlpomgaaGreatDQ000
set_option maxRecDepth 100000
set_option maxHeartbeats 64000000
open _root_.Go renaming World->Q,Value->V
open Go.IntKind renaming i64->L
open Go.Proofs.Tryz renaming prog->O
open Go.Value renaming string->D,int->K,pointer->Y,slice->Z
open _root_.Option renaming some->J,none->U,map_some->X
namespace Go.Proofs.YtkcfgbddlpomgaaGreat.Pr
open Go.RowKit Pu Rw
abbrev C5:=ByteArray×Int×Int×Int×ByteArray
abbrev cv (c:C5):V:=.agg #[D c.1,K L c.2.1,K L c.2.2.1,K L c.2.2.2.1,D c.2.2.2.2]
def cells5 (c:C5):List V:=[D c.1,K L c.2.1,K L c.2.2.1,K L c.2.2.2.1,D c.2.2.2.2]
def r5 (c:Cn):C5:=(c.1,kN c.2,jk c.2,jl c.2,kT c.2)
def EC:Ek C5:=⟨106,41,5,56,.agg #[D ⟨#[]⟩,K L 0,K L 0,K L 0,D ⟨#[]⟩],cv,cells5⟩
theorem aaD:(Tryz.prog.info? 106).map (fun i=>(i.zero,i.size,i.bytes))=J (J (.agg #[D ⟨#[]⟩,K L 0,K L 0,K L 0,D ⟨#[]⟩]),5,56):=by kernel_rfl
theorem Nc (w:Q) (p:Addr) (c:C5) (h:∀ j u,(cells5 c)[j]?=J u->w.cell? (p.add j)=J u):(Instr.loadAt 106 (Y (J p))).run O w=.ok (cv c) w:=by
 have h0:=h 0 _ rfl;have h1:=h 1 _ rfl;have h2:=h 2 _ rfl;have h3:=h 3 _ rfl;have h4:=h 4 _ rfl;simp [Addr.add] at h0 h1 h2 h3 h4;simp [go_sem,h0,h1,h2,h3,h4]
theorem AO:EC.Ok where
 hu:=Tryz.underlying41
 info:=by
  have h:=aaD;cases hi:Tryz.prog.info? 106 with
  | none=>rw [hi] at h; cases h
  | some i =>
   rw [hi] at h;simp only [X,Option.some.injEq,Prod.mk.injEq] at h;exact⟨i,hi,h.1,h.2.1,h.2.2⟩
 zs:=rfl
 len:=fun _=>rfl
 one:=fun x u hu=>by
  simp only [EC,cells5,List.mem_cons,List.not_mem_nil,or_false] at hu;rcases hu with rfl|rfl|rfl|rfl|rfl <;> rfl
 pos:=by decide
 few:=by decide
 load:=fun w p x h=>Nc w p x h
abbrev fK (W:Q) (v:V) (l:List C5):Prop:=Row EC W v l
abbrev jP (W:Q) (B:Nat) (v:V) (l:List C5):Prop:=Own EC W B v l
theorem five {w:Q} {p:Addr} {c:C5} (h:∀ j u,(EC.cells c)[j]?=J u->w.cell? (p.add j)=J u) :
  w.cell? p=J (D c.1)/\w.cell? ⟨p.block,p.off+1,U⟩=J (K L c.2.1)/\w.cell? ⟨p.block,p.off+2,U⟩=J (K L c.2.2.1)/\w.cell? ⟨p.block,p.off+3,U⟩=J (K L c.2.2.2.1)/\w.cell? ⟨p.block,p.off+4,U⟩=J (D c.2.2.2.2):=by
 have h0:=h 0 _ rfl;rw [add_zero] at h0;have g:∀ j u,j≠0->(EC.cells c)[j]?=J u->w.cell? ⟨p.block,p.off+j,U⟩=J u:=fun j u hj hu=>by
  rw [<- add_pos p j hj]; exact h j u hu
 exact⟨h0,g 1 _ (by decide) rfl,g 2 _ (by decide) rfl,g 3 _ (by decide) rfl,g 4 _ (by decide) rfl⟩
theorem Wm {W:Q} {v:V} {l:List C5} {ao:Option Addr} {n c k:Nat} {x:C5} (h:fK W v l) (hv:v=Z ao n c) (hn:l.length=n) (hk:l[k]?=J x) :
  ∃ p:Addr,(∀ w,(Instr.indexAt 41 (Z ao n c) (K L k)).run O w=.ok (Y (J p)) w)/\∀ w,Below W.heap.size W w ->
   w.cell? p=J (D x.1)/\w.cell? ⟨p.block,p.off+1,U⟩=J (K L x.2.1)/\w.cell? ⟨p.block,p.off+2,U⟩=J (K L x.2.2.1)/\w.cell? ⟨p.block,p.off+3,U⟩=J (K L x.2.2.2.1)/\w.cell? ⟨p.block,p.off+4,U⟩=J (D x.2.2.2.2):=by
 obtain⟨p,h1,_,h2⟩:=mR AO h hv hn hk;exact⟨p,h1,fun w hw=>five (h2 w hw)⟩
theorem loC {W:Q} {v:V} {l:List C5} (h:fK W v l) (k:Nat) (hk:k<=l.length):∃ lo,(∀ w,(Instr.sliceAt 41 v U (J (K L k)) U).run O w=.ok lo w)/\fK W lo (l.take k):=tY AO h k hk
theorem hiC {W:Q} {v:V} {l:List C5} (h:fK W v l) (k:Nat) (hk:k<=l.length):∃ hi,(∀ w,(Instr.sliceAt 41 v (J (K L k)) U U).run O w=.ok hi w)/\fK W hi (l.drop k):=oL AO h k hk
theorem Jk {w:Q} (B:Nat) {v x:V} {l m:List C5} (hown:jP w B v l) (hx:fK w x m) (hn:l.length<=1000) (hm:m.length<=1000) (hB:B<=w.heap.size) :
  ∃ v' w',(Builtin.append_ #[41,41] 41 #[v,x]).run O w=.ok v' w'/\jP w' B v' (l++m)/\w.grownBy w' v.ownBlock:=fT AO B hown hx hn hm hB 41
theorem nR (w:Q):jP (w.alloc (.cells #[] 106)) w.heap.size (Z (J ⟨w.heap.size,0,U⟩) 0 0) []:=FJ w
theorem aaE:Tryz.prog.stoodInHeld 106=false:=by kernel_rfl
def xK (x y:C5):Bool:=x.1.toList == y.1.toList && (x.2.1 == y.2.1 && (x.2.2.1 == y.2.2.1 && (x.2.2.2.1 == y.2.2.2.1 && x.2.2.2.2.toList == y.2.2.2.2.toList)))
theorem afy (x y:C5) (r:Bool) (hr:xK x y=r) (w:Q):(binOp .neq 106 (cv x) (cv y)).run O w=.ok (.bool (!r)) w:=by
 have st:=aaE;subst hr;obtain⟨a,b,c,d,e⟩:=x;obtain⟨a',b',c',d',e'⟩:=y;unfold xK;by_cases h1:a.toList=a'.toList <;> by_cases h2:b=b' <;> by_cases h3:c=c' <;> by_cases h4:d=d' <;> by_cases h5:e.toList=e'.toList <;> simp [go_sem,Tryz.underlying106,Tryz.underlying3,Tryz.underlying9,st,h1,h2,h3,h4,h5]
theorem FY (x y:C5):xK x y=true↔x=y:=by
 obtain⟨a,b,c,d,e⟩:=x;obtain⟨a',b',c',d',e'⟩:=y;simp only [xK,Bool.and_eq_true,beq_iff_eq,Prod.mk.injEq];constructor
 ·rintro⟨h1,h2,h3,h4,h5⟩;exact⟨nP h1,h2,h3,h4,nP h5⟩
 ·rintro⟨rfl,rfl,rfl,rfl,rfl⟩;exact⟨rfl,rfl,rfl,rfl,rfl⟩
end Go.Proofs.YtkcfgbddlpomgaaGreat.Pr
