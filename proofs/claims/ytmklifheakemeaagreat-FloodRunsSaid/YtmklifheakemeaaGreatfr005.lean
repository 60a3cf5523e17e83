/-
  Constraints in memory: as values, as cells, as lists. Conditions as told.
-/
import Derived.Test.YtmklifheakemeaaGreatfr004
import Derived.Test.YtmklifheakemeaaGreatfr000
set_option maxRecDepth 100000
set_option maxHeartbeats 64000000
namespace Go.Proofs.YtmklifheakemeaaGreat.Pr
open Go.RowKit Pu Rw
abbrev C5 := ByteArray × Int × Int × Int × ByteArray
abbrev cv (c : C5) : Value := .agg #[.string c.1,.int .i64 c.2.1,.int .i64 c.2.2.1,.int .i64 c.2.2.2.1,.string c.2.2.2.2]
def cells5 (c : C5) : List Value := [.string c.1,.int .i64 c.2.1,.int .i64 c.2.2.1,.int .i64 c.2.2.2.1,.string c.2.2.2.2]
def r5 (c : Cn) : C5 := (c.1,kN c.2,kLo c.2,kHi c.2,kT c.2)
def EC : Ek C5 := ⟨70,32,5,56,.agg #[.string ⟨#[]⟩,.int .i64 0,.int .i64 0,.int .i64 0,.string ⟨#[]⟩],cv,cells5⟩
theorem infoC0 : (Tryz.prog.info? 70).map (fun i => (i.zero,i.size,i.bytes)) = some (some (.agg #[.string ⟨#[]⟩,.int .i64 0,.int .i64 0,.int .i64 0,.string ⟨#[]⟩]),5,56) := by kernel_rfl
theorem load_runC (w : World) (p : Addr) (c : C5) (h : ∀ j u,(cells5 c)[j]? = some u → w.cell? (p.add j) = some u) : (Instr.loadAt 70 (.pointer (some p))).run Tryz.prog w = .ok (cv c) w := by
 have h0 := h 0 _ rfl
 have h1 := h 1 _ rfl
 have h2 := h 2 _ rfl
 have h3 := h 3 _ rfl
 have h4 := h 4 _ rfl
 simp [Addr.add] at h0 h1 h2 h3 h4
 simp [go_sem,h0,h1,h2,h3,h4]
theorem okC : EC.Ok where
 hu := Tryz.underlying32
 info := by
  have h := infoC0
  cases hi : Tryz.prog.info? 70 with
  | none => rw [hi] at h; cases h
  | some i =>
   rw [hi] at h
   simp only [Option.map_some,Option.some.injEq,Prod.mk.injEq] at h
   exact ⟨i,hi,h.1,h.2.1,h.2.2⟩
 zs := rfl
 len := fun _ => rfl
 one := fun x u hu => by
  simp only [EC,cells5,List.mem_cons,List.not_mem_nil,or_false] at hu
  rcases hu with rfl | rfl | rfl | rfl | rfl <;> rfl
 pos := by decide
 few := by decide
 load := fun w p x h => load_runC w p x h
abbrev RowC (W : World) (v : Value) (l : List C5) : Prop := Row EC W v l
abbrev OwnC (W : World) (B : Nat) (v : Value) (l : List C5) : Prop := Own EC W B v l
theorem five {w : World} {p : Addr} {c : C5} (h : ∀ j u,(EC.cells c)[j]? = some u → w.cell? (p.add j) = some u) :
  w.cell? p = some (.string c.1) ∧ w.cell? ⟨p.block,p.off + 1,none⟩ = some (.int .i64 c.2.1) ∧ w.cell? ⟨p.block,p.off + 2,none⟩ = some (.int .i64 c.2.2.1) ∧ w.cell? ⟨p.block,p.off + 3,none⟩ = some (.int .i64 c.2.2.2.1) ∧ w.cell? ⟨p.block,p.off + 4,none⟩ = some (.string c.2.2.2.2) := by
 have h0 := h 0 _ rfl
 rw [add_zero] at h0
 have g : ∀ j u,j ≠ 0 → (EC.cells c)[j]? = some u → w.cell? ⟨p.block,p.off + j,none⟩ = some u := fun j u hj hu => by
  rw [← add_pos p j hj]; exact h j u hu
 exact ⟨h0,g 1 _ (by decide) rfl,g 2 _ (by decide) rfl,g 3 _ (by decide) rfl,g 4 _ (by decide) rfl⟩
theorem elC {W : World} {v : Value} {l : List C5} {ao : Option Addr} {n c k : Nat} {x : C5} (h : RowC W v l) (hv : v = .slice ao n c) (hn : l.length = n) (hk : l[k]? = some x) :
  ∃ p : Addr,(∀ w,(Instr.indexAt 32 (.slice ao n c) (.int .i64 k)).run Tryz.prog w = .ok (.pointer (some p)) w) ∧ ∀ w,Below W.heap.size W w →
   w.cell? p = some (.string x.1) ∧ w.cell? ⟨p.block,p.off + 1,none⟩ = some (.int .i64 x.2.1) ∧ w.cell? ⟨p.block,p.off + 2,none⟩ = some (.int .i64 x.2.2.1) ∧ w.cell? ⟨p.block,p.off + 3,none⟩ = some (.int .i64 x.2.2.2.1) ∧ w.cell? ⟨p.block,p.off + 4,none⟩ = some (.string x.2.2.2.2) := by
 obtain ⟨p,h1,_,h2⟩ := row_el okC h hv hn hk
 exact ⟨p,h1,fun w hw => five (h2 w hw)⟩
theorem hiC {W : World} {v : Value} {l : List C5} (h : RowC W v l) (k : Nat) (hk : k ≤ l.length) : ∃ hi,(∀ w,(Instr.sliceAt 32 v (some (.int .i64 k)) none none).run Tryz.prog w = .ok hi w) ∧ RowC W hi (l.drop k) := row_hi okC h k hk
theorem appC {w : World} (B : Nat) {v x : Value} {l m : List C5} (hown : OwnC w B v l) (hx : RowC w x m) (hn : l.length ≤ 1000) (hm : m.length ≤ 1000) (hB : B ≤ w.heap.size) :
  ∃ v' w',(Builtin.append_ #[32,32] 32 #[v,x]).run Tryz.prog w = .ok v' w' ∧ OwnC w' B v' (l ++ m) ∧ w.grownBy w' v.ownBlock := app_row okC B hown hx hn hm hB 32
def eqlC (x y : C5) : Bool := x.1.toList == y.1.toList && (x.2.1 == y.2.1 && (x.2.2.1 == y.2.2.1 && (x.2.2.2.1 == y.2.2.2.1 && x.2.2.2.2.toList == y.2.2.2.2.toList)))
theorem eqlC_iff (x y : C5) : eqlC x y = true ↔ x = y := by
 obtain ⟨a,b,c,d,e⟩ := x
 obtain ⟨a',b',c',d',e'⟩ := y
 simp only [eqlC,Bool.and_eq_true,beq_iff_eq,Prod.mk.injEq]
 constructor
 ·rintro ⟨h1,h2,h3,h4,h5⟩
  exact ⟨name_inj h1,h2,h3,h4,name_inj h5⟩
 ·rintro ⟨rfl,rfl,rfl,rfl,rfl⟩
  exact ⟨rfl,rfl,rfl,rfl,rfl⟩
end Go.Proofs.YtmklifheakemeaaGreat.Pr
