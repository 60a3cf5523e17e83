/-
  Rows of messages to . Conditions as told.
-/
import Derived.Test.YtkcfgbddlpomgaaBQ008
import Derived.Test.YtkcfgbddlpomgaaBQ009
set_option maxRecDepth 100000
set_option maxHeartbeats 64000000
open Go.Addr renaming add->K
open Go.IntKind renaming i64->J
open Go.Value renaming int->D,slice->O,pointer->V,agg->X
open _root_.Option renaming some->L,none->Q,map_some->U
namespace Go.Proofs.Ytkcfgbddlpomgaa
namespace Bk
open Go.RowKit Go.Sort Rw Ytkcfgbddlpomgaa.Nm Pr
abbrev nG:=Int×Int×Int×Int×Int×Int×Sl×Sl
abbrev jG (x:nG):List Value:=[D J x.1,D J x.2.1,D J x.2.2.1,D J x.2.2.2.1,D J x.2.2.2.2.1,D J x.2.2.2.2.2.1,dz x.2.2.2.2.2.2.1,dz x.2.2.2.2.2.2.2]
abbrev DU (x:nG):Value:=X #[D J x.1,D J x.2.1,D J x.2.2.1,D J x.2.2.2.1,D J x.2.2.2.2.1,D J x.2.2.2.2.2.1,dz x.2.2.2.2.2.2.1,dz x.2.2.2.2.2.2.2]
def EU:Ek nG:=⟨50,42,8,96,X #[D J 0,D J 0,D J 0,D J 0,D J 0,D J 0,O Q 0 0,O Q 0 0],DU,jG⟩
theorem DV:(Try.prog.info? 50).map (fun i=>(i.zero,i.size,i.bytes))=L (L (X #[D J 0,D J 0,D J 0,D J 0,D J 0,D J 0,O Q 0 0,O Q 0 0]),8,96):=by kernel_rfl
theorem DW (w:World) (p:Addr) (x:nG) (h:∀ j u,(jG x)[j]?=L u->w.cell? (p.add j)=L u):(Instr.loadAt 50 (V (L p))).run Try.prog w=.ok (DU x) w:=by
 have h0:=h 0 _ rfl;have h1:=h 1 _ rfl;have h2:=h 2 _ rfl;have h3:=h 3 _ rfl;have h4:=h 4 _ rfl;have h5:=h 5 _ rfl;have h6:=h 6 _ rfl;have h7:=h 7 _ rfl;simp [K] at h0 h1 h2 h3 h4 h5 h6 h7;simp [go_sem,h0,h1,h2,h3,h4,h5,h6,h7]
theorem Gh:EU.Ok where
 hu:=Try.underlying42
 info:=by
  have h:=DV;cases hi:Try.prog.info? 50 with
  | none=>rw [hi] at h; cases h
  | some i =>
   rw [hi] at h;simp only [U,Option.some.injEq,Prod.mk.injEq] at h;exact⟨i,hi,h.1,h.2.1,h.2.2⟩
 zs:=rfl
 len:=fun _=>rfl
 one:=fun x u hu=>by
  simp only [EU,jG,List.mem_cons,List.not_mem_nil,or_false] at hu;rcases hu with rfl|rfl|rfl|rfl|rfl|rfl|rfl|rfl <;> rfl
 pos:=by decide
 few:=by decide
 load:=fun w p x h=>DW w p x h
abbrev Gi (W:World) (v:Value) (l:List nG):Prop:=Row EU W v l
abbrev uE (W:World) (B:Nat) (v:Value) (l:List nG):Prop:=Own EU W B v l
theorem Jh {W:World} {v:Value} {l:List nG} {ao:Option Addr} {n c k:Nat} {x:nG} (h:Gi W v l) (hv:v=O ao n c) (hn:l.length=n) (hk:l[k]?=L x) :
  ∃ p:Addr,(∀ w,(Instr.indexAt 42 (O ao n c) (D J k)).run Try.prog w=.ok (V (L p)) w)/\∀ w,Below W.heap.size W w->w.cell? p=L (D J x.1)/\w.cell? ⟨p.block,p.off+1,Q⟩=L (D J x.2.1)/\w.cell? ⟨p.block,p.off+2,Q⟩=L (D J x.2.2.1)/\w.cell? ⟨p.block,p.off+3,Q⟩=L (D J x.2.2.2.1)/\w.cell? ⟨p.block,p.off+4,Q⟩=L (D J x.2.2.2.2.1)/\w.cell? ⟨p.block,p.off+5,Q⟩=L (D J x.2.2.2.2.2.1)/\w.cell? ⟨p.block,p.off+6,Q⟩=L (dz x.2.2.2.2.2.2.1)/\w.cell? ⟨p.block,p.off+7,Q⟩=L (dz x.2.2.2.2.2.2.2):=by
 obtain⟨p,h1,_,h2⟩:=iW Gh h hv hn hk;exact⟨p,h1,fun w hw=>⟨by simpa [K] using h2 w hw 0 _ rfl,by simpa [K] using h2 w hw 1 _ rfl,by simpa [K] using h2 w hw 2 _ rfl,by simpa [K] using h2 w hw 3 _ rfl,by simpa [K] using h2 w hw 4 _ rfl,by simpa [K] using h2 w hw 5 _ rfl,by simpa [K] using h2 w hw 6 _ rfl,by simpa [K] using h2 w hw 7 _ rfl⟩⟩
def Gj (x y:Id):Bool:=x.1 == y.1 && x.2 == y.2
theorem oG (x y:Id):Gj x y=true↔x=y:=by
 obtain⟨a,b⟩:=x;obtain⟨c,d⟩:=y;simp [Gj]
end Bk
namespace Rg
open Go.RowKit
end Rg
namespace Rg
open Go.RowKit
end Rg
namespace Rl
open Go.RowKit Pu Rw Pr Va
end Rl
end Go.Proofs.Ytkcfgbddlpomgaa
