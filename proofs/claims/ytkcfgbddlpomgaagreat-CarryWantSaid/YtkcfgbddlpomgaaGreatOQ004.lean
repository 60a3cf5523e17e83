/-
  Constraints in memor. Conditions as told.
-/
import Derived.Test.YtkcfgbddlpomgaaGreatOQ003
import Derived.Test.YtkcfgbddlpomgaaGreatOQ000
set_option maxRecDepth 100000
set_option maxHeartbeats 64000000
open _root_.Go renaming World->Q,Value->U,Addr->Z
open Go.IntKind renaming i64->L
open Go.Value renaming string->D,int->K,pointer->X,slice->Y
open _root_.Option renaming some->J,none->O,map_some->V
namespace Go.Proofs.YtkcfgbddlpomgaaGreat.Pr
open Go.RowKit Pu Rw
abbrev C5:=ByteArray×Int×Int×Int×ByteArray
abbrev cv (c:C5):U:=.agg #[D c.1,K L c.2.1,K L c.2.2.1,K L c.2.2.2.1,D c.2.2.2.2]
def cells5 (c:C5):List U:=[D c.1,K L c.2.1,K L c.2.2.1,K L c.2.2.2.1,D c.2.2.2.2]
def r5 (c:Cn):C5:=(c.1,kN c.2,jN c.2,jO c.2,kT c.2)
def EC:Ek C5:=⟨106,41,5,56,.agg #[D ⟨#[]⟩,K L 0,K L 0,K L 0,D ⟨#[]⟩],cv,cells5⟩
theorem acV:(Tryz.prog.info? 106).map (fun i=>(i.zero,i.size,i.bytes))=J (J (.agg #[D ⟨#[]⟩,K L 0,K L 0,K L 0,D ⟨#[]⟩]),5,56):=by kernel_rfl
theorem Pt (w:Q) (p:Z) (c:C5) (h:∀ j u,(cells5 c)[j]?=J u->w.cell? (p.add j)=J u):(Instr.loadAt 106 (X (J p))).run Tryz.prog w=.ok (cv c) w:=by
 have h0:=h 0 _ rfl;have h1:=h 1 _ rfl;have h2:=h 2 _ rfl;have h3:=h 3 _ rfl;have h4:=h 4 _ rfl;simp [Addr.add] at h0 h1 h2 h3 h4;simp [go_sem,h0,h1,h2,h3,h4]
theorem Dk:EC.Ok where
 hu:=Tryz.underlying41
 info:=by
  have h:=acV;cases hi:Tryz.prog.info? 106 with
  | none=>rw [hi] at h; cases h
  | some i =>
   rw [hi] at h;simp only [V,Option.some.injEq,Prod.mk.injEq] at h;exact⟨i,hi,h.1,h.2.1,h.2.2⟩
 zs:=rfl
 len:=fun _=>rfl
 one:=fun x u hu=>by
  simp only [EC,cells5,List.mem_cons,List.not_mem_nil,or_false] at hu;rcases hu with rfl|rfl|rfl|rfl|rfl <;> rfl
 pos:=by decide
 few:=by decide
 load:=fun w p x h=>Pt w p x h
abbrev gu (W:Q) (v:U) (l:List C5):Prop:=Row EC W v l
abbrev jP (W:Q) (B:Nat) (v:U) (l:List C5):Prop:=Own EC W B v l
theorem five {w:Q} {p:Z} {c:C5} (h:∀ j u,(EC.cells c)[j]?=J u->w.cell? (p.add j)=J u) :
  w.cell? p=J (D c.1)/\w.cell? ⟨p.block,p.off+1,O⟩=J (K L c.2.1)/\w.cell? ⟨p.block,p.off+2,O⟩=J (K L c.2.2.1)/\w.cell? ⟨p.block,p.off+3,O⟩=J (K L c.2.2.2.1)/\w.cell? ⟨p.block,p.off+4,O⟩=J (D c.2.2.2.2):=by
 have h0:=h 0 _ rfl;rw [add_zero] at h0;have g:∀ j u,j≠0->(EC.cells c)[j]?=J u->w.cell? ⟨p.block,p.off+j,O⟩=J u:=fun j u hj hu=>by
  rw [<- add_pos p j hj]; exact h j u hu
 exact⟨h0,g 1 _ (by decide) rfl,g 2 _ (by decide) rfl,g 3 _ (by decide) rfl,g 4 _ (by decide) rfl⟩
theorem elC {W:Q} {v:U} {l:List C5} {ao:Option Z} {n c k:Nat} {x:C5} (h:gu W v l) (hv:v=Y ao n c) (hn:l.length=n) (hk:l[k]?=J x) :
  ∃ p:Z,(∀ w,(Instr.indexAt 41 (Y ao n c) (K L k)).run Tryz.prog w=.ok (X (J p)) w)/\∀ w,Below W.heap.size W w ->
   w.cell? p=J (D x.1)/\w.cell? ⟨p.block,p.off+1,O⟩=J (K L x.2.1)/\w.cell? ⟨p.block,p.off+2,O⟩=J (K L x.2.2.1)/\w.cell? ⟨p.block,p.off+3,O⟩=J (K L x.2.2.2.1)/\w.cell? ⟨p.block,p.off+4,O⟩=J (D x.2.2.2.2):=by
 obtain⟨p,h1,_,h2⟩:=nC Dk h hv hn hk;exact⟨p,h1,fun w hw=>five (h2 w hw)⟩
theorem loC {W:Q} {v:U} {l:List C5} (h:gu W v l) (k:Nat) (hk:k<=l.length):∃ lo,(∀ w,(Instr.sliceAt 41 v O (J (K L k)) O).run Tryz.prog w=.ok lo w)/\gu W lo (l.take k):=vL Dk h k hk
theorem hiC {W:Q} {v:U} {l:List C5} (h:gu W v l) (k:Nat) (hk:k<=l.length):∃ hi,(∀ w,(Instr.sliceAt 41 v (J (K L k)) O O).run Tryz.prog w=.ok hi w)/\gu W hi (l.drop k):=qH Dk h k hk
theorem Km {w:Q} (B:Nat) {v x:U} {l m:List C5} (hown:jP w B v l) (hx:gu w x m) (hn:l.length<=1000) (hm:m.length<=1000) (hB:B<=w.heap.size) :
  ∃ v' w',(Builtin.append_ #[41,41] 41 #[v,x]).run Tryz.prog w=.ok v' w'/\jP w' B v' (l++m)/\w.grownBy w' v.ownBlock:=gG Dk B hown hx hn hm hB 41
theorem pJ (w:Q):jP (w.alloc (.cells #[] 106)) w.heap.size (Y (J ⟨w.heap.size,0,O⟩) 0 0) []:=Hg w
def SA (x y:C5):Bool:=x.1.toList == y.1.toList && (x.2.1 == y.2.1 && (x.2.2.1 == y.2.2.1 && (x.2.2.2.1 == y.2.2.2.1 && x.2.2.2.2.toList == y.2.2.2.2.toList)))
theorem SE (x y:C5):SA x y=true↔x=y:=by
 obtain⟨a,b,c,d,e⟩:=x;obtain⟨a',b',c',d',e'⟩:=y;simp only [SA,Bool.and_eq_true,beq_iff_eq,Prod.mk.injEq];constructor
 ·rintro⟨h1,h2,h3,h4,h5⟩;exact⟨pG h1,h2,h3,h4,pG h5⟩
 ·rintro⟨rfl,rfl,rfl,rfl,rfl⟩;exact⟨rfl,rfl,rfl,rfl,rfl⟩
end Go.Proofs.YtkcfgbddlpomgaaGreat.Pr
