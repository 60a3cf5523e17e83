/-
  What stays when a ro. Conditions as told.
-/
import Derived.Test.YtkcfgbddlpomgaaGreatCQ018
import Derived.Test.YtkcfgbddlpomgaaGreatCQ029
set_option maxRecDepth 100000
set_option maxHeartbeats 64000000
open _root_.Go renaming World->D,TypeId->J,Value->K
namespace Go.Proofs.YtkcfgbddlpomgaaGreat.Av
open Go.RowKit Go.Sort Rw YtkcfgbddlpomgaaGreat.Nm Pr Bk
def Off (ob:Option Nat) (W x:D):Prop:=(∀ j,j<W.heap.size->some j≠ob->x.heap[j]?=W.heap[j]?)/\W.heap.size<=x.heap.size
def Tag (ob:Option Nat) (W:D) (t:J):Prop:=∀ g,ob=some g->∃ d,dG W g d t
theorem kG {α:Type} {E:Ek α} {W:D} {B:Nat} {v:K} {l:List α} (h:Own E W B v l):Tag v.ownBlock W E.t:=by
 intro g hg;rcases iP h with⟨rfl,_⟩|⟨g',c',cur,rfl,_,h2,_⟩
 ·cases hg
 ·obtain rfl:g'=g:=by simpa [Value.ownBlock] using hg
  exact⟨cur,h2⟩
theorem Off.own {α:Type} {E:Ek α} {ob:Option Nat} {W x:D} {B:Nat} {v:K} {l:List α} {t:J} (h:Off ob W x) (ho:Own E W B v l) (hg:Tag ob W t) (hne:(E.t == t)=false):Own E x B v l:=by
 refine⟨ho.1,?_⟩;rcases ho.2 with h2|⟨g',cap,cur,h1,h2,h3,h4⟩
 ·exact Or.inl h2
 ·refine Or.inr ⟨g',cap,cur,h1,h2,?_,h4⟩;rw [h.1 g' (lt_of_heap h3) fun e=>by
   obtain⟨d,hd⟩:=hg g' e.symm;exact qI (show dG W g' cur E.t from h3) hd hne rfl]
  exact h3
theorem Off.box {ob:Option Nat} {W x:D} {b:Nat} {cs:Array K} {s t:J} (h:Off ob W x) (hb:dG W b cs s) (hg:Tag ob W t) (hne:(s == t)=false):dG x b cs s:=(h.1 b hb.lt fun e=>by
 obtain⟨d,hd⟩:=hg b e.symm;exact qI hb hd hne rfl).trans hb
theorem PM.off {w0 wr x:D} {B:Nat} {v:K} {p:List C5} {ob:Option Nat} {t:J} (h:PM w0 B wr v p) (hb:Off ob wr x) (hg:Tag ob wr t) (hne:(106 == t)=false):PM w0 B x v p:=h.imp id fun h=>hb.own h hg hne
theorem II.off {w0 wr x:D} {B:Nat} {y:jv} {a:Ad} {ob:Option Nat} {t:J} (h:II w0 B wr y a) (hb:Off ob wr x) (hg:Tag ob wr t) (hne:(106 == t)=false):II w0 B x y a:=⟨h.1,h.2.1,h.2.2.off hb hg hne⟩
theorem Aq.off {w0 wr x:D} {B:Nat} {y:iB} {a:En} {ob:Option Nat} {t:J} (h:Aq w0 B wr y a) (hb:Off ob wr x) (hg:Tag ob wr t) (hne:(106 == t)=false):Aq w0 B x y a:=⟨h.1,h.2.1,h.2.2.1,h.2.2.2.1,h.2.2.2.2.off hb hg hne⟩
theorem Kl.off {w0 wr x:D} {B:Nat} {y:qy} {a:Ow} {ob:Option Nat} {t:J} (h:Kl w0 B wr y a) (hb:Off ob wr x) (hg:Tag ob wr t) (hne:(106 == t)=false):Kl w0 B x y a:=⟨h.1,h.2.off hb hg hne⟩
theorem Cp.aeP {w0 wr x:D} {B:Nat} {b:Br} {nv av sv ev ov AP:Sl} {al:List Ad} (h:Cp w0 B wr b nv av sv ev ov) (hb:Off (dK av).ownBlock wr x) (hx:∃ l,kR x B (dK AP) l/\dX (II w0 B x) l al):Cp w0 B x { b with dL:=al } nv AP sv ev ov:=by
 obtain⟨l0,hl0,_⟩:=h.dL;have hg:=kG hl0;exact {
  near:=hb.own h.near hg (by decide)
  seen:=hb.own h.seen hg (by decide)
  dL:=hx
  ent:=by obtain⟨l,h1,h2⟩:=h.ent; exact⟨l,hb.own h1 hg (by decide),h2.mono fun _ _ h=>h.off hb hg (by decide)⟩
  own:=by obtain⟨l,h1,h2⟩:=h.own; exact⟨l,hb.own h1 hg (by decide),h2.mono fun _ _ h=>h.off hb hg (by decide)⟩ }
theorem Cp.acH {w0 wr x:D} {B:Nat} {b:Br} {nv av sv ev ov ev':Sl} {el:List En} (h:Cp w0 B wr b nv av sv ev ov) (hb:Off (dK ev).ownBlock wr x) (hx:∃ l,jw x B (dK ev') l/\dX (Aq w0 B x) l el):Cp w0 B x { b with ent:=el } nv av sv ev' ov:=by
 obtain⟨l0,hl0,_⟩:=h.ent;have hg:=kG hl0;exact {
  near:=hb.own h.near hg (by decide)
  seen:=hb.own h.seen hg (by decide)
  dL:=by obtain⟨l,h1,h2⟩:=h.dL; exact⟨l,hb.own h1 hg (by decide),h2.mono fun _ _ h=>h.off hb hg (by decide)⟩
  ent:=hx
  own:=by obtain⟨l,h1,h2⟩:=h.own; exact⟨l,hb.own h1 hg (by decide),h2.mono fun _ _ h=>h.off hb hg (by decide)⟩ }
theorem Cp.aeQ {w0 wr x:D} {B:Nat} {b:Br} {nv av sv ev ov Ja:Sl} {sl:List eF} (h:Cp w0 B wr b nv av sv ev ov) (hb:Off (dK sv).ownBlock wr x) (hx:qY x B (dK Ja) sl):Cp w0 B x { b with seen:=sl } nv av Ja ev ov:=by
 have hg:=kG h.seen;exact {
  near:=hb.own h.near hg (by decide)
  seen:=hx
  dL:=by obtain⟨l,h1,h2⟩:=h.dL; exact⟨l,hb.own h1 hg (by decide),h2.mono fun _ _ h=>h.off hb hg (by decide)⟩
  ent:=by obtain⟨l,h1,h2⟩:=h.ent; exact⟨l,hb.own h1 hg (by decide),h2.mono fun _ _ h=>h.off hb hg (by decide)⟩
  own:=by obtain⟨l,h1,h2⟩:=h.own; exact⟨l,hb.own h1 hg (by decide),h2.mono fun _ _ h=>h.off hb hg (by decide)⟩ }
theorem zw {α β:Type} {R:α->β->Prop} {l:List α} {m:List β} (h:dX R l m) (k:Nat) {a:α} {b:β} (hr:R a b):dX R (fP l k a) (fP m k b) :=
 ((h.take k).append (.cons hr .nil)).append (h.drop k)
theorem keys_eq {w0 wr:D} {B:Nat}:∀ {l:List jv} {al:List Ad},dX (II w0 B wr) l al->l.map qN=al.map Ad.id
 | _,_,.nil=>rfl
 | _,_,.cons h t=>by rw [List.map_cons,List.map_cons,keys_eq t]; exact congrArg (·::_) h.1
theorem Da {α:Type} (key:α->eF) (l:List α):j5 key l↔j5 (fun x:eF=>x) (l.map key):=by
 unfold j5;rw [List.pairwise_map]
end Go.Proofs.YtkcfgbddlpomgaaGreat.Av
