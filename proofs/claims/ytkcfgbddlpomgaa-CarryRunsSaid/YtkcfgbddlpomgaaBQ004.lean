/-
  Constraints in memor. Conditions as told.
-/
import Derived.Test.YtkcfgbddlpomgaaBQ003
import Derived.Test.YtkcfgbddlpomgaaBQ000
set_option maxRecDepth 100000
set_option maxHeartbeats 64000000
open Go.IntKind renaming i64->L
open Go.Value renaming string->D,int->K,pointer->U,agg->V
open _root_.Option renaming some->J,none->O,map_some->Q
namespace Go.Proofs.Ytkcfgbddlpomgaa.Pr
open Go.RowKit Pu Rw
abbrev C5:=ByteArray×Int×Int×Int×ByteArray
abbrev cv (c:C5):Value:=V #[D c.1,K L c.2.1,K L c.2.2.1,K L c.2.2.2.1,D c.2.2.2.2]
def cells5 (c:C5):List Value:=[D c.1,K L c.2.1,K L c.2.2.1,K L c.2.2.2.1,D c.2.2.2.2]
def r5 (c:Cn):C5:=(c.1,kN c.2,jO c.2,jP c.2,kT c.2)
def EC:Ek C5:=⟨38,34,5,56,V #[D ⟨#[]⟩,K L 0,K L 0,K L 0,D ⟨#[]⟩],cv,cells5⟩
theorem Bp:(Try.prog.info? 38).map (fun i=>(i.zero,i.size,i.bytes))=J (J (V #[D ⟨#[]⟩,K L 0,K L 0,K L 0,D ⟨#[]⟩]),5,56):=by kernel_rfl
theorem uw (w:World) (p:Addr) (c:C5) (h:∀ j u,(cells5 c)[j]?=J u->w.cell? (p.add j)=J u):(Instr.loadAt 38 (U (J p))).run Try.prog w=.ok (cv c) w:=by
 have h0:=h 0 _ rfl;have h1:=h 1 _ rfl;have h2:=h 2 _ rfl;have h3:=h 3 _ rfl;have h4:=h 4 _ rfl;simp [Addr.add] at h0 h1 h2 h3 h4;simp [go_sem,h0,h1,h2,h3,h4]
theorem Aw:EC.Ok where
 hu:=Try.underlying34
 info:=by
  have h:=Bp;cases hi:Try.prog.info? 38 with
  | none=>rw [hi] at h; cases h
  | some i =>
   rw [hi] at h;simp only [Q,Option.some.injEq,Prod.mk.injEq] at h;exact⟨i,hi,h.1,h.2.1,h.2.2⟩
 zs:=rfl
 len:=fun _=>rfl
 one:=fun x u hu=>by
  simp only [EC,cells5,List.mem_cons,List.not_mem_nil,or_false] at hu;rcases hu with rfl|rfl|rfl|rfl|rfl <;> rfl
 pos:=by decide
 few:=by decide
 load:=fun w p x h=>uw w p x h
abbrev gL (W:World) (v:Value) (l:List C5):Prop:=Row EC W v l
abbrev kW (W:World) (B:Nat) (v:Value) (l:List C5):Prop:=Own EC W B v l
theorem five {w:World} {p:Addr} {c:C5} (h:∀ j u,(EC.cells c)[j]?=J u->w.cell? (p.add j)=J u) :
  w.cell? p=J (D c.1)/\w.cell? ⟨p.block,p.off+1,O⟩=J (K L c.2.1)/\w.cell? ⟨p.block,p.off+2,O⟩=J (K L c.2.2.1)/\w.cell? ⟨p.block,p.off+3,O⟩=J (K L c.2.2.2.1)/\w.cell? ⟨p.block,p.off+4,O⟩=J (D c.2.2.2.2):=by
 have h0:=h 0 _ rfl;rw [add_zero] at h0;have g:∀ j u,j≠0->(EC.cells c)[j]?=J u->w.cell? ⟨p.block,p.off+j,O⟩=J u:=fun j u hj hu=>by
  rw [<- add_pos p j hj]; exact h j u hu
 exact⟨h0,g 1 _ (by decide) rfl,g 2 _ (by decide) rfl,g 3 _ (by decide) rfl,g 4 _ (by decide) rfl⟩
theorem Gf {W:World} {v:Value} {l:List C5} {ao:Option Addr} {n c k:Nat} {x:C5} (h:gL W v l) (hv:v=.slice ao n c) (hn:l.length=n) (hk:l[k]?=J x) :
  ∃ p:Addr,(∀ w,(Instr.indexAt 34 (.slice ao n c) (K L k)).run Try.prog w=.ok (U (J p)) w)/\∀ w,Below W.heap.size W w ->
   w.cell? p=J (D x.1)/\w.cell? ⟨p.block,p.off+1,O⟩=J (K L x.2.1)/\w.cell? ⟨p.block,p.off+2,O⟩=J (K L x.2.2.1)/\w.cell? ⟨p.block,p.off+3,O⟩=J (K L x.2.2.2.1)/\w.cell? ⟨p.block,p.off+4,O⟩=J (D x.2.2.2.2):=by
 obtain⟨p,h1,_,h2⟩:=iW Aw h hv hn hk;exact⟨p,h1,fun w hw=>five (h2 w hw)⟩
def wO (x y:C5):Bool:=x.1.toList == y.1.toList && (x.2.1 == y.2.1 && (x.2.2.1 == y.2.2.1 && (x.2.2.2.1 == y.2.2.2.1 && x.2.2.2.2.toList == y.2.2.2.2.toList)))
theorem wP (x y:C5):wO x y=true↔x=y:=by
 obtain⟨a,b,c,d,e⟩:=x;obtain⟨a',b',c',d',e'⟩:=y;simp only [wO,Bool.and_eq_true,beq_iff_eq,Prod.mk.injEq];constructor
 ·rintro⟨h1,h2,h3,h4,h5⟩;exact⟨iX h1,h2,h3,h4,iX h5⟩
 ·rintro⟨rfl,rfl,rfl,rfl,rfl⟩;exact⟨rfl,rfl,rfl,rfl,rfl⟩
end Go.Proofs.Ytkcfgbddlpomgaa.Pr
