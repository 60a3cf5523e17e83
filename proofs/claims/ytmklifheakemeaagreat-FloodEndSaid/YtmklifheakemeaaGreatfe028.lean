/-
  Brokers of broadside. Conditions as told.
-/
import Derived.Test.YtmklifheakemeaaGreatfe025
import Derived.Test.YtmklifheakemeaaGreatfe020
set_option maxRecDepth 100000
set_option maxHeartbeats 64000000
open _root_.Bool renaming and_eq_true->D
namespace Go.Proofs.YtmklifheakemeaaGreat.Bk
open Go.RowKit Go.Sort Rw YtmklifheakemeaaGreat.Nm Pr
def Lp (x y:Ad):Bool:=Ie x.id y.id && (x.par == y.par && jo x.p y.p)
def Lr (x y:Ow):Bool:=Ie x.id y.id && jo x.p y.p
theorem NY (x y:Ad):Lp x y=true↔x=y:=by
 obtain⟨a,b,c⟩:=x;obtain⟨a',b',c'⟩:=y;simp only [Lp,D,oh,uI,beq_iff_eq,Ad.mk.injEq];constructor
 ·rintro⟨h1,h2,h3⟩;exact⟨h1,h3,h2⟩
 ·rintro⟨h1,h2,h3⟩;exact⟨h1,h3,h2⟩
theorem NZ (x y:Ow):Lr x y=true↔x=y:=by
 obtain⟨a,b⟩:=x;obtain⟨a',b'⟩:=y;simp only [Lr,D,oh,uI,Ow.mk.injEq]
def Bq (a b:Br):Bool:=a.me == b.me && (decide (a.near=b.near) && (fV Ie a.seen b.seen && (decide (a.dQ.length=b.dQ.length) && (decide (a.own.length=b.own.length) && (fV KJ a.ent b.ent && (fV Lp a.dQ b.dQ && fV Lr a.own b.own))))))
theorem Bt (a b:Br):Bq a b=true↔a=b:=by
 obtain⟨m,n,d,s,e,o⟩:=a;obtain⟨m',n',d',s',e',o'⟩:=b;simp only [Bq,D,beq_iff_eq,decide_eq_true_eq,kP oh,kP Nh,kP NY,kP NZ,Br.mk.injEq];constructor
 ·rintro⟨h1,h2,h3,_,_,h6,h7,h8⟩;exact⟨h1,h2,h7,h3,h6,h8⟩
 ·rintro⟨h1,h2,h3,h4,h5,h6⟩;exact⟨h1,h2,h4,by rw [h3],by rw [h6],h5,h3,h6⟩
end Go.Proofs.YtmklifheakemeaaGreat.Bk
