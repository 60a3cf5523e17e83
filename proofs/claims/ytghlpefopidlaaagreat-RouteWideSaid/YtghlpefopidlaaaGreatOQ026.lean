/-
  Covered of broadside. Conditions as told.
-/
import Derived.Test.YtghlpefopidlaaaGreatOQ025
import Derived.Test.YtghlpefopidlaaaGreatOQ014
import Derived.Test.YtghlpefopidlaaaGreatOQ022
import Derived.Test.YtghlpefopidlaaaGreatOQ017
set_option maxRecDepth 100000
set_option maxHeartbeats 64000000
open _root_.Bool renaming false->J,true->K
open Go.Obj renaming cells->D
namespace Go.Proofs.YtghlpefopidlaaaGreat
namespace Bk
open Go.RowKit Rw YtghlpefopidlaaaGreat.Nm Pr Rl
def PS (c:C5):Cn:=(c.1,if c.2.1=1 then .rg c.2.2.1 c.2.2.2.1 else if c.2.1=2 then .tx c.2.2.2.2 else .pr c.2.2.2.2)
theorem RD (c:Cn):PS (r5 c)=c:=by
 obtain⟨n,k⟩:=c;cases k <;> simp [PS,r5,kN,lN,lQ,kT]
theorem qJ (a:List Cn):(a.map r5).map PS=a:=by
 rw [List.map_map];have h:PS∘r5=id:=funext RD;rw [h,List.map_id]
def dU (p:List C5):Prop:=∃ a:List Cn,NF a/\p=a.map r5
def lT (p q:List C5):Bool:=qx (p.map PS) (q.map PS)
def Bc (t:Id) (p:List C5) (e:En):Bool:=decide (e.tree=t) && (e.up && lT e.p p)
def dV (m:List En) (t:Id) (p:List C5):Bool:=m.any (Bc t p)
end Bk
namespace Bk
open Go.RowKit Go.Sort Rw YtghlpefopidlaaaGreat.Nm Pr
def iF (a b:Id×Id):Bool:=dJ a.1 b.1 || (XK a.1 b.1 && dJ a.2 b.2)
def dR (l:List (Id×Id)) (x:Id×Id):Nat:=(l.takeWhile fun a=>iF a x).length
abbrev dF (e:En):Id×Id:=(e.tree,e.sub)
def iA (b:Br) (e:En):Br×Bool:=match b.dG[(fC (b.dG.map Ad.id) e.tree).toNat]? with
 | none=>(b,J)
 | some a=>if fC (b.dG.map Ad.id) e.tree=-1 then (b,J) else if gT (b.ent.map dF) (dF e)≠-1 then (b,J) else if e.from_≠-1/\e.from_=a.par then (b,J) else
  ({ b with ent:=eZ b.ent (dR (b.ent.map dF) (dF e)) { e with up:=decide (a.par≠-1) && !dV b.ent e.tree e.p } },decide (a.par≠-1) && !dV b.ent e.tree e.p)
theorem rQ (b:Br) (e:En):(iA b e).1.me=b.me/\(iA b e).1.near=b.near/\(iA b e).1.dG=b.dG/\(iA b e).1.seen=b.seen/\(iA b e).1.own=b.own:=by
 unfold iA
 split
 ·exact⟨rfl,rfl,rfl,rfl,rfl⟩
 ·split
  ·exact⟨rfl,rfl,rfl,rfl,rfl⟩
  ·split
   ·exact⟨rfl,rfl,rfl,rfl,rfl⟩
   ·split <;> exact⟨rfl,rfl,rfl,rfl,rfl⟩
end Bk
namespace Bk
open Go.RowKit Go.Sort Rw YtghlpefopidlaaaGreat.Nm Pr
open Av
def tV (e:En):En:={ e with up:=K }
def fM (t:Id) (s:List En×List En) (k:Nat):List En×List En:=match s.1[k]? with
 | none=>s
 | some e=>if e.tree=t/\e.up=J/\dV s.1 t e.p=J then (s.1.set k (tV e),s.2++[tV e]) else s
def gJ (t:Id) (m:List En) (k:Nat):List En×List En:=(List.range k).foldl (fM t) (m,[])
def takeB (b:Br) (t s:Id) (f:Int):Br×List En×Bool:=match b.ent[(gT (b.ent.map dF) (t,s)).toNat]? with
 | none=>(b,[],J)
 | some e=>if gT (b.ent.map dF) (t,s)=-1 then (b,[],J) else if e.from_≠f then (b,[],J) else
  if e.up=J then ({ b with ent:=cutAt b.ent (gT (b.ent.map dF) (t,s)).toNat },[],J) else
  ({ b with ent:=(gJ t (cutAt b.ent (gT (b.ent.map dF) (t,s)).toNat) (cutAt b.ent (gT (b.ent.map dF) (t,s)).toNat).length).1 },(gJ t (cutAt b.ent (gT (b.ent.map dF) (t,s)).toNat) (cutAt b.ent (gT (b.ent.map dF) (t,s)).toNat).length).2,K)
theorem iK (t:Id) (m:List En) (k:Nat):gJ t m (k+1)=fM t (gJ t m k) k:=by
 simp [gJ,List.range_succ]
theorem zq (t:Id) (s:List En×List En) (k:Nat):(fM t s k).1.length=s.1.length/\(fM t s k).2.length<=s.2.length+1:=by
 unfold fM
 split
 ·exact⟨rfl,Nat.le_succ _⟩
 ·split
  ·simp
  ·exact⟨rfl,Nat.le_succ _⟩
theorem oQ (t:Id) (m:List En):∀ k,(gJ t m k).1.length=m.length/\(gJ t m k).2.length<=k
 | 0=>⟨rfl,Nat.le_refl _⟩
 | k+1=>by
  rw [iK];have h1:=oQ t m k;have h2:=zq t (gJ t m k) k;omega
theorem Bd:∀ (l:List iT) (k:Nat) (x:iT),l[k]?=some x->flat EN (l.set k (x.1,x.2.1,x.2.2.1,x.2.2.2.1,x.2.2.2.2.1,x.2.2.2.2.2.1,K))=(flat EN l).set (k * 7+6) (.bool K)
 | [],k,x,h=>by simp at h
 | y::r,0,x,h=>by
  obtain rfl:y=x:=by simpa using h
  rfl
 | y::r,k+1,x,h=>by
  have ih:=Bd r k x (by simpa using h);rw [show (k+1) * 7+6=(k * 7+6)+1+1+1+1+1+1+1 by omega];simp only [List.set_cons_succ,flat,EN,iD,List.cons_append,List.nil_append] at ih ⊢;rw [ih]
theorem NV {w:World} {B g n cap k:Nat} {l:List iT} {x:iT} (h:jy w B (.slice (some ⟨g,0,none⟩) n cap) l) (hk:l[k]?=some x) :
  jy (w.setCell ⟨g,k * 7+6,none⟩ (.bool K)) B (.slice (some ⟨g,0,none⟩) n cap) (l.set k (x.1,x.2.1,x.2.2.1,x.2.2.2.1,x.2.2.2.2.1,x.2.2.2.2.2.1,K))/\w.cell? ⟨g,k * 7+6,none⟩=some (.bool x.2.2.2.2.2.2)/\w.frozen? ⟨g,k * 7+6,none⟩=J:=by
 have c:=iJ lF h hk w (Below.refl _ _);have c6:=c 6 _ rfl;simp [Addr.add,EN] at c6;obtain⟨cur,hb⟩:=gX h;obtain⟨ao,c',hv⟩:=(Row.dB h).len;obtain⟨_,rfl,_⟩:some ⟨g,0,none⟩=ao/\n=l.length/\cap=c':=by simpa using hv
 have h:w.ownsRow B 67 7 (.slice (some ⟨g,0,none⟩) l.length cap) l.length (flat EN l):=h;have t1:=(h.stored (k * 7+6) (.bool K)).1;refine⟨?_,c6,hb.fr _⟩;have e:=Bd l k x hk;show World.ownsRow _ B 67 7 _ (List.length _) (flat EN _);rw [e,List.length_set];exact t1
theorem eG.set2 {α β:Type} {R:α->β->Prop}:∀ {l:List α} {m:List β} (k:Nat) {a:α} {b:β},eG R l m->R a b->eG R (l.set k a) (m.set k b)
 | _,_,_,_,_,.nil,_=>.nil
 | _,_,0,_,_,.cons _ t,hr=>.cons hr t
 | _,_,k+1,_,_,.cons x t,hr=>.cons x (eG.set2 k t hr)
theorem uR (w:World) (c d e f:Array Value) (r s t u:TypeId):Below w.heap.size w ((((w.alloc (D c r)).alloc (D d s)).alloc (D e t)).alloc (D f u))/\dx ((((w.alloc (D c r)).alloc (D d s)).alloc (D e t)).alloc (D f u)) w.heap.size c r/\dx ((((w.alloc (D c r)).alloc (D d s)).alloc (D e t)).alloc (D f u)) (w.heap.size+1) d s/\dx ((((w.alloc (D c r)).alloc (D d s)).alloc (D e t)).alloc (D f u)) (w.heap.size+1+1) e t/\dx ((((w.alloc (D c r)).alloc (D d s)).alloc (D e t)).alloc (D f u)) (w.heap.size+1+1+1) f u:=by
 obtain⟨h0,h1,h2,h3⟩:=iZ w c d e r s t;refine⟨h0.alloc h0.size _,h1.more _,h2.more _,h3.more _,?_⟩;have h:=dK (((w.alloc (D c r)).alloc (D d s)).alloc (D e t)) f u;have e2:(((w.alloc (D c r)).alloc (D d s)).alloc (D e t)).heap.size=w.heap.size+1+1+1:=by simp
 rw [e2] at h;exact h
end Bk
end Go.Proofs.YtghlpefopidlaaaGreat
