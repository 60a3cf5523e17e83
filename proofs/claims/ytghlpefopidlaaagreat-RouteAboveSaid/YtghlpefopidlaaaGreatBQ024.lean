/-
  Add of broadsideref9. Conditions as told.
-/
import Derived.Test.YtghlpefopidlaaaGreatBQ023
import Derived.Test.YtghlpefopidlaaaGreatBQ017
set_option maxRecDepth 100000
set_option maxHeartbeats 64000000
open _root_.Bool renaming false->J,true->K
open Go.Obj renaming cells->D
namespace Go.Proofs.YtghlpefopidlaaaGreat
namespace Bk
open Go.RowKit Go.Sort Rw YtghlpefopidlaaaGreat.Nm Pr
abbrev dM (e:En):Id×Id:=(e.tree,e.sub)
def gY (b:Br) (e:En):Br×Bool:=match b.dW[(fH (b.dW.map Ad.id) e.tree).toNat]? with
 | none=>(b,J)
 | some a=>if fH (b.dW.map Ad.id) e.tree=-1 then (b,J) else if iw (b.ent.map dM) (dM e)≠-1 then (b,J) else if e.from_≠-1/\e.from_=a.par then (b,J) else
  ({ b with ent:=eY b.ent (dY (b.ent.map dM) (dM e)) { e with up:=decide (a.par≠-1) && !eP b.ent e.tree e.p } },decide (a.par≠-1) && !eP b.ent e.tree e.p)
theorem lC (b:Br) (e:En):(gY b e).1.me=b.me/\(gY b e).1.near=b.near/\(gY b e).1.dW=b.dW/\(gY b e).1.seen=b.seen/\(gY b e).1.own=b.own:=by
 unfold gY
 split
 ·exact⟨rfl,rfl,rfl,rfl,rfl⟩
 ·split
  ·exact⟨rfl,rfl,rfl,rfl,rfl⟩
  ·split
   ·exact⟨rfl,rfl,rfl,rfl,rfl⟩
   ·split <;> exact⟨rfl,rfl,rfl,rfl,rfl⟩
end Bk
namespace Bk
open Go.RowKit Go.Sort Rw YtghlpefopidlaaaGreat.Nm Pr
open Av
def sP (e:En):En:={ e with up:=K }
def fI (t:Id) (s:List En×List En) (k:Nat):List En×List En:=match s.1[k]? with
 | none=>s
 | some e=>if e.tree=t/\e.up=J/\eP s.1 t e.p=J then (s.1.set k (sP e),s.2++[sP e]) else s
def fP (t:Id) (m:List En) (k:Nat):List En×List En:=(List.range k).foldl (fI t) (m,[])
def takeB (b:Br) (t s:Id) (f:Int):Br×List En×Bool:=match b.ent[(iw (b.ent.map dM) (t,s)).toNat]? with
 | none=>(b,[],J)
 | some e=>if iw (b.ent.map dM) (t,s)=-1 then (b,[],J) else if e.from_≠f then (b,[],J) else
  if e.up=J then ({ b with ent:=cutAt b.ent (iw (b.ent.map dM) (t,s)).toNat },[],J) else
  ({ b with ent:=(fP t (cutAt b.ent (iw (b.ent.map dM) (t,s)).toNat) (cutAt b.ent (iw (b.ent.map dM) (t,s)).toNat).length).1 },(fP t (cutAt b.ent (iw (b.ent.map dM) (t,s)).toNat) (cutAt b.ent (iw (b.ent.map dM) (t,s)).toNat).length).2,K)
theorem iC (t:Id) (m:List En) (k:Nat):fP t m (k+1)=fI t (fP t m k) k:=by
 simp [fP,List.range_succ]
theorem Aq (t:Id) (s:List En×List En) (k:Nat):(fI t s k).1.length=s.1.length/\(fI t s k).2.length<=s.2.length+1:=by
 unfold fI
 split
 ·exact⟨rfl,Nat.le_succ _⟩
 ·split
  ·simp
  ·exact⟨rfl,Nat.le_succ _⟩
theorem lD (t:Id) (m:List En):∀ k,(fP t m k).1.length=m.length/\(fP t m k).2.length<=k
 | 0=>⟨rfl,Nat.le_refl _⟩
 | k+1=>by
  rw [iC];have h1:=lD t m k;have h2:=Aq t (fP t m k) k;omega
theorem CU:∀ (l:List jl) (k:Nat) (x:jl),l[k]?=some x->flat EN (l.set k (x.1,x.2.1,x.2.2.1,x.2.2.2.1,x.2.2.2.2.1,x.2.2.2.2.2.1,K))=(flat EN l).set (k * 7+6) (.bool K)
 | [],k,x,h=>by simp at h
 | y::r,0,x,h=>by
  obtain rfl:y=x:=by simpa using h
  rfl
 | y::r,k+1,x,h=>by
  have ih:=CU r k x (by simpa using h);rw [show (k+1) * 7+6=(k * 7+6)+1+1+1+1+1+1+1 by omega];simp only [List.set_cons_succ,flat,EN,iU,List.cons_append,List.nil_append] at ih ⊢;rw [ih]
theorem Qm {w:World} {B g n cap k:Nat} {l:List jl} {x:jl} (h:jM w B (.slice (some ⟨g,0,none⟩) n cap) l) (hk:l[k]?=some x) :
  jM (w.setCell ⟨g,k * 7+6,none⟩ (.bool K)) B (.slice (some ⟨g,0,none⟩) n cap) (l.set k (x.1,x.2.1,x.2.2.1,x.2.2.2.1,x.2.2.2.2.1,x.2.2.2.2.2.1,K))/\w.cell? ⟨g,k * 7+6,none⟩=some (.bool x.2.2.2.2.2.2)/\w.frozen? ⟨g,k * 7+6,none⟩=J:=by
 have c:=je lY h hk w (Below.refl _ _);have c6:=c 6 _ rfl;simp [Addr.add,EN] at c6;obtain⟨cur,hb⟩:=iD h;obtain⟨ao,c',hv⟩:=(Row.dH h).len;obtain⟨_,rfl,_⟩:some ⟨g,0,none⟩=ao/\n=l.length/\cap=c':=by simpa using hv
 have h:w.ownsRow B 67 7 (.slice (some ⟨g,0,none⟩) l.length cap) l.length (flat EN l):=h;have t1:=(h.stored (k * 7+6) (.bool K)).1;refine⟨?_,c6,hb.fr _⟩;have e:=CU l k x hk;show World.ownsRow _ B 67 7 _ (List.length _) (flat EN _);rw [e,List.length_set];exact t1
theorem eT.set2 {α β:Type} {R:α->β->Prop}:∀ {l:List α} {m:List β} (k:Nat) {a:α} {b:β},eT R l m->R a b->eT R (l.set k a) (m.set k b)
 | _,_,_,_,_,.nil,_=>.nil
 | _,_,0,_,_,.cons _ t,hr=>.cons hr t
 | _,_,k+1,_,_,.cons x t,hr=>.cons x (eT.set2 k t hr)
theorem CW (w:World) (c d e f:Array Value) (r s t u:TypeId):Below w.heap.size w ((((w.alloc (D c r)).alloc (D d s)).alloc (D e t)).alloc (D f u))/\dG ((((w.alloc (D c r)).alloc (D d s)).alloc (D e t)).alloc (D f u)) w.heap.size c r/\dG ((((w.alloc (D c r)).alloc (D d s)).alloc (D e t)).alloc (D f u)) (w.heap.size+1) d s/\dG ((((w.alloc (D c r)).alloc (D d s)).alloc (D e t)).alloc (D f u)) (w.heap.size+1+1) e t/\dG ((((w.alloc (D c r)).alloc (D d s)).alloc (D e t)).alloc (D f u)) (w.heap.size+1+1+1) f u:=by
 obtain⟨h0,h1,h2,h3⟩:=ji w c d e r s t;refine⟨h0.alloc h0.size _,h1.more _,h2.more _,h3.more _,?_⟩;have h:=dO (((w.alloc (D c r)).alloc (D d s)).alloc (D e t)) f u;have e2:(((w.alloc (D c r)).alloc (D d s)).alloc (D e t)).heap.size=w.heap.size+1+1+1:=by simp
 rw [e2] at h;exact h
end Bk
end Go.Proofs.YtghlpefopidlaaaGreat
