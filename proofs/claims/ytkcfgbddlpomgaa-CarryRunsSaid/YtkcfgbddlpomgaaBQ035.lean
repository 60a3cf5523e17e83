/-
  rightEntry of packag. Conditions as told.
-/
import Derived.Test.YtkcfgbddlpomgaaBQ032
set_option maxRecDepth 100000
set_option maxHeartbeats 64000000
namespace Go.Proofs.Ytkcfgbddlpomgaa.Av
open Go.RowKit Go.Sort Rw Ytkcfgbddlpomgaa.Nm Pr Bk
def Ch (b:Br) (e:En):Bool:=match fD b.dU e.tree with
 | none=>false
 | some a=>!(e.from_ == a.par && !(a.par == -1)) && (oL b.near e.from_ && (!(e.up && a.par == -1) && Wr.lV e.p))
abbrev IV (a b:Ad):Int:=gB a.id b.id
abbrev wF (a b:En):Int:=wE (gB a.tree b.tree) (gB a.sub b.sub)
abbrev Jv (a b:Ow):Int:=gB a.id b.id
def Et (b:Br):Bool:=iQ ig b.near && (iQ gB b.seen && (iQ IV b.dU && (iQ wF b.ent && (iQ Jv b.own && (b.dU.all (Ce b) && (b.ent.all (Ch b) && b.own.all (fun o=>Wr.lV o.p)))))))
theorem gH {α:Type} {c:α->α->Int} (ht:∀ x y z,c x y<0->c y z<0->c x z<0):∀ {l:List α},iQ c l=true->l.Pairwise fun x y=>c x y<0
 | [],_=>List.Pairwise.nil
 | [x],_=>List.pairwise_singleton _ _
 | x::y::l,h=>by
  unfold iQ at h;rw [Bool.and_eq_true] at h;have ih:=gH ht h.2;have hxy:c x y<0:=of_decide_eq_true h.1;refine List.pairwise_cons.2 ⟨fun z hz=>?_,ih⟩;rcases List.mem_cons.1 hz with rfl|hz
  ·exact hxy
  ·exact ht x y z hxy ((List.pairwise_cons.1 ih).1 z hz)
theorem gQ {x y:dI}:gB x y<0↔dD x y=true:=je x y
theorem oQ (x y z:dI) (h1:gB x y<0) (h2:gB y z<0):gB x z<0:=gQ.2 (eB (gQ.1 h1) (gQ.1 h2))
theorem vH {l:List dI} (h:iQ gB l=true):sW l:=(gH oQ h).imp fun {_a _b} q=>gQ.1 q
theorem yu {l:List Ad} (h:iQ IV l=true):sV l:=(gH (fun x y z=>oQ x.id y.id z.id) h).imp fun {_a _b} q=>gQ.1 q
end Go.Proofs.Ytkcfgbddlpomgaa.Av
