/-
  What stays when a ro. Conditions as told.
-/
import Derived.Test.YtkcfgbddlpomgaaBQ022
import Derived.Test.YtkcfgbddlpomgaaBQ027
set_option maxRecDepth 100000
set_option maxHeartbeats 64000000
open _root_.Go renaming World->D,TypeId->J,Value->K
namespace Go.Proofs.Ytkcfgbddlpomgaa.Av
open Go.RowKit Go.Sort Rw Ytkcfgbddlpomgaa.Nm Pr Bk
def Off (ob:Option Nat) (W x:D):Prop:=(∀ j,j<W.heap.size->some j≠ob->x.heap[j]?=W.heap[j]?)/\W.heap.size<=x.heap.size
def Tag (ob:Option Nat) (W:D) (t:J):Prop:=∀ g,ob=some g->∃ d,dh W g d t
theorem fQ {α:Type} {E:Ek α} {W:D} {B:Nat} {v:K} {l:List α} (h:Own E W B v l):Tag v.ownBlock W E.t:=by
 intro g hg;rcases eH h with⟨rfl,_⟩|⟨g',c',cur,rfl,_,h2,_⟩
 ·cases hg
 ·obtain rfl:g'=g:=by simpa [Value.ownBlock] using hg
  exact⟨cur,h2⟩
theorem Off.own {α:Type} {E:Ek α} {ob:Option Nat} {W x:D} {B:Nat} {v:K} {l:List α} {t:J} (h:Off ob W x) (ho:Own E W B v l) (hg:Tag ob W t) (hne:(E.t == t)=false):Own E x B v l:=by
 refine⟨ho.1,?_⟩;rcases ho.2 with h2|⟨g',cap,cur,h1,h2,h3,h4⟩
 ·exact Or.inl h2
 ·refine Or.inr ⟨g',cap,cur,h1,h2,?_,h4⟩;rw [h.1 g' (lt_of_heap h3) fun e=>by
   obtain⟨d,hd⟩:=hg g' e.symm;exact iM (show dh W g' cur E.t from h3) hd hne rfl]
  exact h3
theorem Off.box {ob:Option Nat} {W x:D} {b:Nat} {cs:Array K} {s t:J} (h:Off ob W x) (hb:dh W b cs s) (hg:Tag ob W t) (hne:(s == t)=false):dh x b cs s:=(h.1 b hb.lt fun e=>by
 obtain⟨d,hd⟩:=hg b e.symm;exact iM hb hd hne rfl).trans hb
theorem PM.off {w0 wr x:D} {B:Nat} {v:K} {p:List C5} {ob:Option Nat} {t:J} (h:PM w0 B wr v p) (hb:Off ob wr x) (hg:Tag ob wr t) (hne:(38 == t)=false):PM w0 B x v p:=h.imp id fun h=>hb.own h hg hne
theorem qJ.off {w0 wr x:D} {B:Nat} {y:gD} {a:Ad} {ob:Option Nat} {t:J} (h:qJ w0 B wr y a) (hb:Off ob wr x) (hg:Tag ob wr t) (hne:(38 == t)=false):qJ w0 B x y a:=⟨h.1,h.2.1,h.2.2.off hb hg hne⟩
theorem mV.off {w0 wr x:D} {B:Nat} {y:gq} {a:En} {ob:Option Nat} {t:J} (h:mV w0 B wr y a) (hb:Off ob wr x) (hg:Tag ob wr t) (hne:(38 == t)=false):mV w0 B x y a:=⟨h.1,h.2.1,h.2.2.1,h.2.2.2.1,h.2.2.2.2.off hb hg hne⟩
theorem sI.off {w0 wr x:D} {B:Nat} {y:lg} {a:Ow} {ob:Option Nat} {t:J} (h:sI w0 B wr y a) (hb:Off ob wr x) (hg:Tag ob wr t) (hne:(38 == t)=false):sI w0 B x y a:=⟨h.1,h.2.off hb hg hne⟩
theorem Cp.GK {w0 wr x:D} {B:Nat} {b:Br} {nv av sv ev ov Dj:Sl} {al:List Ad} (h:Cp w0 B wr b nv av sv ev ov) (hb:Off (dz av).ownBlock wr x) (hx:∃ l,jD x B (dz Dj) l/\dJ (qJ w0 B x) l al):Cp w0 B x { b with dU:=al } nv Dj sv ev ov:=by
 obtain⟨l0,hl0,_⟩:=h.dU;have hg:=fQ hl0;exact {
  near:=hb.own h.near hg (by decide)
  seen:=hb.own h.seen hg (by decide)
  dU:=hx
  ent:=by obtain⟨l,h1,h2⟩:=h.ent; exact⟨l,hb.own h1 hg (by decide),h2.mono fun _ _ h=>h.off hb hg (by decide)⟩
  own:=by obtain⟨l,h1,h2⟩:=h.own; exact⟨l,hb.own h1 hg (by decide),h2.mono fun _ _ h=>h.off hb hg (by decide)⟩ }
theorem Cp.Eo {w0 wr x:D} {B:Nat} {b:Br} {nv av sv ev ov ev':Sl} {el:List En} (h:Cp w0 B wr b nv av sv ev ov) (hb:Off (dz ev).ownBlock wr x) (hx:∃ l,iZ x B (dz ev') l/\dJ (mV w0 B x) l el):Cp w0 B x { b with ent:=el } nv av sv ev' ov:=by
 obtain⟨l0,hl0,_⟩:=h.ent;have hg:=fQ hl0;exact {
  near:=hb.own h.near hg (by decide)
  seen:=hb.own h.seen hg (by decide)
  dU:=by obtain⟨l,h1,h2⟩:=h.dU; exact⟨l,hb.own h1 hg (by decide),h2.mono fun _ _ h=>h.off hb hg (by decide)⟩
  ent:=hx
  own:=by obtain⟨l,h1,h2⟩:=h.own; exact⟨l,hb.own h1 hg (by decide),h2.mono fun _ _ h=>h.off hb hg (by decide)⟩ }
theorem Cp.GN {w0 wr x:D} {B:Nat} {b:Br} {nv av sv ev ov Dk:Sl} {sl:List dI} (h:Cp w0 B wr b nv av sv ev ov) (hb:Off (dz sv).ownBlock wr x) (hx:pG x B (dz Dk) sl):Cp w0 B x { b with seen:=sl } nv av Dk ev ov:=by
 have hg:=fQ h.seen;exact {
  near:=hb.own h.near hg (by decide)
  seen:=hx
  dU:=by obtain⟨l,h1,h2⟩:=h.dU; exact⟨l,hb.own h1 hg (by decide),h2.mono fun _ _ h=>h.off hb hg (by decide)⟩
  ent:=by obtain⟨l,h1,h2⟩:=h.ent; exact⟨l,hb.own h1 hg (by decide),h2.mono fun _ _ h=>h.off hb hg (by decide)⟩
  own:=by obtain⟨l,h1,h2⟩:=h.own; exact⟨l,hb.own h1 hg (by decide),h2.mono fun _ _ h=>h.off hb hg (by decide)⟩ }
theorem mD {α β:Type} {R:α->β->Prop} {l:List α} {m:List β} (h:dJ R l m) (k:Nat) {a:α} {b:β} (hr:R a b):dJ R (fu l k a) (fu m k b) :=
 ((h.take k).append (.cons hr .nil)).append (h.drop k)
theorem keys_eq {w0 wr:D} {B:Nat}:∀ {l:List gD} {al:List Ad},dJ (qJ w0 B wr) l al->l.map iO=al.map Ad.id
 | _,_,.nil=>rfl
 | _,_,.cons h t=>by rw [List.map_cons,List.map_cons,keys_eq t]; exact congrArg (·::_) h.1
theorem nU {α:Type} (key:α->dI) (l:List α):iR key l↔iR (fun x:dI=>x) (l.map key):=by
 unfold iR;rw [List.pairwise_map]
end Go.Proofs.Ytkcfgbddlpomgaa.Av
